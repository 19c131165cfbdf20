package find_test

import (
	"math"
	"slices"
	"testing"

	"terrier/api"
	"terrier/find"
	"terrier/valid"
)

// near: what Near tells, to its end.
func near(x *find.Index, lo, hi api.P) []int {
	var l []int
	for id := range x.Near(lo, hi) {
		l = append(l, id)
	}
	return l
}

// window is a box, and what is told of it.
type window struct {
	lo, hi       api.P
	nodes, edges []int
}

// hold: do Window and Near tell that, each time they are asked?
func hold(t *testing.T, x *find.Index, w window) {
	t.Helper()
	for range 2 {
		nodes, edges := x.Window(w.lo, w.hi)
		if told := near(x, w.lo, w.hi); !slices.Equal(nodes, w.nodes) || !slices.Equal(edges, w.edges) || !slices.Equal(told, w.edges) {
			t.Error(w, nodes, edges, told)
		}
	}
}

// Promise 20.2: nodes and edges by boxes, both ends of which belong to them.
func TestWindow(t *testing.T) {
	x := find.Build(croft())
	all, every := []int{2, 3, 5, 6, 8, 9, 10, 30, 31, 77}, []int{1, 4, 5, 9, 12, 40}
	for _, w := range []window{
		{at(-5, -5), at(45, 20), all, every},
		{at(-4, -5), at(45, 20), all[:9], every},
		{at(-5, -4), at(45, 20), all[:9], every},
		{at(math.MinInt64, math.MinInt64), at(math.MaxInt64, math.MaxInt64), all, every},
		{at(-5, -5), at(-5, -5), []int{77}, nil},
		{at(0, 0), at(0, 0), []int{2}, []int{1, 4, 5, 12}},
		{at(20, 20), at(20, 20), []int{3}, []int{1, 4, 5}},
		{at(10, 15), at(10, 15), nil, []int{1, 4, 5}}, // in the box of lines that are far from there
		{at(5, 2), at(11, 9), nil, []int{1, 4, 5}},
		{at(4, 2), at(11, 9), []int{10}, []int{1, 4, 5, 12}},
		{at(5, 2), at(12, 4), []int{8}, []int{1, 4, 5, 9}},
		{at(16, 8), at(17, 9), nil, []int{1, 4, 5, 9}},
		{at(17, 8), at(17, 9), nil, []int{1, 4, 5}},
		{at(16, 9), at(17, 9), nil, []int{1, 4, 5}},
		{at(14, 6), at(18, 1), nil, nil}, // lo is above hi by Y
		{at(18, 1), at(14, 6), nil, nil}, // by X
		{at(14, 1), at(18, 6), []int{5, 9}, []int{1, 4, 5, 9}},
		{at(20, 1), at(40, 8), nil, []int{1, 4, 5, 40}},
		{at(21, 0), at(39, 20), nil, nil},
		{at(21, 0), at(40, 0), []int{30}, []int{40}},
		{at(41, 1), at(44, 8), nil, []int{40}},
		{at(45, 9), at(46, 10), nil, []int{40}},
		{at(46, 9), at(47, 10), nil, nil},
		{at(45, 10), at(47, 10), nil, nil},
		{at(-1, -1), at(-1, 30), nil, nil},
		{at(0, 21), at(50, 30), nil, nil},
		{at(most+1, most+1), at(most+2, most+2), nil, nil},
	} {
		hold(t, x, w)
	}
	hold(t, find.Build(api.Plan{}), window{lo: at(-most, -most), hi: at(most, most)})
}

// Promises 20.2, 9.1: pt.Meet takes what is beyond the grid for the bound, and a box that lies beyond as well.
func TestWindowAtBounds(t *testing.T) {
	x := find.Build(nests(3))
	for _, w := range []window{
		{at(-most, -most), at(-most, -most), []int{1}, []int{1}},
		{at(most, most), at(most, most), nil, []int{1}},
		{at(most+1, 0), at(most+9, 3), nil, []int{1}},
		{at(math.MinInt64, math.MinInt64), at(-most-1, -most-1), []int{1}, []int{1}},
		{at(most+9, 0), at(most+1, 0), nil, []int{1}}, // as Meet takes them, its lo is not above its hi
		{at(most+9, 0), at(most-1, 0), nil, nil},
		{at(math.MinInt64, math.MinInt64), at(-most/2, -most/2), []int{1, 2}, []int{1, 2}},
		{at(math.MinInt64, math.MinInt64), at(-most/2-1, -most/2), []int{1}, []int{1}},
		{at(0, 0), at(0, 0), nil, []int{1, 2, 3}},
	} {
		hold(t, x, w)
	}
}

// Promise 20.2: rising, though the plan's own order is another one.
func TestWindowRises(t *testing.T) {
	p := croft()
	slices.Reverse(p.Nodes)
	slices.Reverse(p.Edges)
	hold(t, find.Build(p), window{at(-9, -9), at(15, 9), []int{2, 8, 9, 10, 77}, []int{1, 4, 5, 9, 12}})
}

// Promise 20.2: an Index goes on knowing the plan of which it was built, whatever becomes of that, and of what it answered.
func TestIndexKnows(t *testing.T) {
	p := croft()
	x := find.Build(p)
	all := x.Near(at(0, 0), at(99, 99))
	smear(p)
	for range 2 {
		nodes, edges := x.Window(at(0, 0), at(20, 20))
		clear(nodes[:cap(nodes)])
		clear(edges[:cap(edges)])
	}
	hold(t, x, window{at(0, 0), at(20, 20), []int{2, 3, 5, 6, 8, 9, 10}, []int{1, 4, 5, 9, 12}})
	if l := slices.Collect(all); !slices.Equal(l, []int{1, 4, 5, 9, 12, 40}) {
		t.Error(l)
	}
	other := find.Build(api.Plan{Nodes: []api.Node{{ID: 1}}})
	hold(t, other, window{at(0, 0), at(20, 20), []int{1}, nil})
	hold(t, x, window{at(30, 0), at(40, 0), []int{30}, []int{40}})
}

// Promise 20.2: Near tells one by one; who has seen enough stops, and begins anew, also within another one.
func TestNear(t *testing.T) {
	x := find.Build(croft())
	want := []int{1, 4, 5, 9, 12}
	seq := x.Near(at(0, 0), at(20, 20))
	for n := range want {
		var l []int
		for id := range seq {
			l = append(l, id)
			if len(l) == n+1 {
				break
			}
		}
		if !slices.Equal(l, want[:n+1]) {
			t.Error(n, l)
		}
	}
	var pairs [][2]int
	for a := range seq {
		for b := range seq {
			if a < b {
				break
			}
			pairs = append(pairs, [2]int{a, b})
		}
	}
	if len(pairs) != 15 || pairs[14] != [2]int{12, 12} || pairs[10] != [2]int{12, 1} || pairs[4] != [2]int{5, 4} {
		t.Error(pairs)
	}
	for range x.Near(at(21, 0), at(39, 0)) {
		t.Error("told where there is none")
	}
}

// Promises 20.2, 20.3 (W9): of raw plans edges without points have no box, and the others have theirs, be they lines or not.
func TestWindowOfRaw(t *testing.T) {
	x := find.Build(api.Plan{
		Nodes: []api.Node{{ID: 3, P: at(most+5, 0)}, {ID: -2, P: at(0, 0)}, {ID: 0, P: at(0, 0)}},
		Edges: []api.Edge{{ID: 4}, {ID: 2, Line: of(0, 0)}, {ID: math.MinInt, Line: of(9, 9, 0, 0, 9, 9)}, {ID: 1, Line: []api.P{}}, {ID: 7, Line: of(math.MaxInt64, 0, 5, 0)}},
	})
	for _, w := range []window{
		{at(0, 0), at(0, 0), []int{-2, 0}, []int{math.MinInt, 2}},
		{at(6, 0), at(7, 9), nil, []int{math.MinInt, 7}},
		{at(most, 0), at(most, 0), []int{3}, []int{7}},
	} {
		hold(t, x, w)
	}
}

// overlap: have two boxes a number in common, the bounds standing for what is beyond?
func overlap(alo, ahi, blo, bhi int64) bool {
	in := func(x int64) int64 { return max(-most, min(most, x)) }
	return in(alo) <= in(ahi) && in(blo) <= in(bhi) && in(alo) <= in(bhi) && in(blo) <= in(ahi)
}

// windowByWords: what Window should tell, by a look through all points.
func windowByWords(p api.Plan, lo, hi api.P) window {
	w := window{lo: lo, hi: hi}
	for _, n := range p.Nodes {
		if overlap(n.P.X, n.P.X, lo.X, hi.X) && overlap(n.P.Y, n.P.Y, lo.Y, hi.Y) {
			w.nodes = append(w.nodes, n.ID)
		}
	}
	for _, e := range p.Edges {
		var xs, ys []int64
		for _, q := range e.Line {
			xs, ys = append(xs, q.X), append(ys, q.Y)
		}
		if overlap(slices.Min(xs), slices.Max(xs), lo.X, hi.X) && overlap(slices.Min(ys), slices.Max(ys), lo.Y, hi.Y) {
			w.edges = append(w.edges, e.ID)
		}
	}
	slices.Sort(w.nodes)
	slices.Sort(w.edges)
	return w
}

// Promises 20.2, 20.3: all as looking through everything would tell, of random plans and windows.
func TestWindowsAtRandom(t *testing.T) {
	r := noise()
	sizes := map[int]int{}
	for i := range 120 {
		m := mesh{r, leads()[i%len(leads())]}
		p := m.plan()
		x := find.Build(p)
		for range 200 {
			a, b := m.to(at(r.Int63n(24)-2, r.Int63n(24)-2)), m.to(at(r.Int63n(24)-2, r.Int63n(24)-2))
			lo, hi := at(min(a.X, b.X), min(a.Y, b.Y)), at(max(a.X, b.X), max(a.Y, b.Y))
			switch r.Intn(12) {
			case 0:
				lo, hi = a, b // mostly above each other
			case 1:
				hi = lo
			case 2:
				hi.X = math.MaxInt64
			case 3:
				lo.Y = math.MinInt64
			}
			w := windowByWords(p, lo, hi)
			hold(t, x, w)
			sizes[min(len(w.nodes), 3)]++
			sizes[10+min(len(w.edges), 3)]++
		}
		if t.Failed() {
			t.Fatal(p)
		}
	}
	for _, size := range []int{0, 1, 2, 3, 10, 11, 12, 13} {
		if sizes[size] < 300 {
			t.Error("too few of a size", sizes)
		}
	}
}

// Promises 20.1 to 20.3: of a plan as large as they may be all is told too.
func TestLargest(t *testing.T) {
	const last = api.MaxEdges
	p := api.Plan{Nodes: []api.Node{{ID: 1, P: at(0, 0), Face: -1}, {ID: 2, P: at(700000, 0), Face: -1}}}
	for i := range last { // one above the other, up and down; what is below an edge is at its right
		l := of(0, 0)
		for k := range int64(api.MaxVerts - 2) {
			l = append(l, at(10+10000*k, k%2*100000+int64(4*i)+1))
		}
		p.Edges = append(p.Edges, api.Edge{ID: i + 1, Start: 1, End: 2, Line: append(l, at(700000, 0)), Left: (i + 1) % last, Right: i})
	}
	for i := range api.MaxNodes - 2 { // each between two edges, above a bend
		p.Nodes = append(p.Nodes, api.Node{ID: i + 3, P: at(300010, int64(4*i)+3), Face: i + 1})
	}
	for _, i := range []int{0, 1, 77, last - 2, last - 1} {
		y := int64(4*i) + 1
		for q, want := range map[api.P]what{
			at(20010, y): {0, i + 1, -1}, at(610010, y+100000): {0, i + 1, -1}, at(20010, y+1): {0, 0, (i + 1) % last}, at(20010, y-1): {0, 0, i}, at(600010, y+1): {0, 0, (i + 1) % last},
		} {
			if got := look(t, p, q); got != want {
				t.Error(q, got, want)
			}
		}
		want := [][]int{{i, -i - 1}}
		if i == 0 {
			want = [][]int{{-1, last}}
		}
		if got := find.FaceRings(p, i); !slices.EqualFunc(got, want, slices.Equal) {
			t.Error(i, got, want)
		}
	}
	if got := look(t, p, at(300010, 4*50+3)); got != (what{53, 0, -1}) {
		t.Error(got)
	}
	if n := len(find.NodeEdges(p, 1)); n != last {
		t.Error(n)
	}
	x := find.Build(p)
	for _, q := range []api.P{at(0, 0), at(300010, 203), at(350000, 1196), at(350000, 101196), at(700000, 0)} {
		hold(t, x, windowByWords(p, q, at(q.X+9, q.Y+9)))
	}
	if e := valid.Faces(p); e != api.OK {
		t.Error("the test's own plan", e)
	}
}
