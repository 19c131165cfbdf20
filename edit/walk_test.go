package edit_test

import (
	"math"
	"math/rand"
	"reflect"
	"slices"
	"testing"

	"terrier/api"
)

// moved: the plan with each point led elsewhere.
func moved(p api.Plan, to func(api.P) api.P) api.Plan {
	p = copyOf(p)
	for i := range p.Nodes {
		p.Nodes[i].P = to(p.Nodes[i].P)
	}
	for i := range p.Edges {
		p.Edges[i].Line = movedLine(p.Edges[i].Line, to)
	}
	return p
}

func movedLine(l []api.P, to func(api.P) api.P) []api.P {
	var m []api.P
	for _, q := range l {
		m = append(m, to(q))
	}
	return m
}

// leads: ways to lead points elsewhere that keep what is at the left, up to the grid's bounds.
func leads() []func(api.P) api.P {
	const far = most / (size + 2)
	return []func(api.P) api.P{
		func(q api.P) api.P { return q },
		func(q api.P) api.P { return at(-q.Y, q.X) },
		func(q api.P) api.P { return at(q.X+most-size, q.Y-most) },
		func(q api.P) api.P { return at(q.X*far-9, most-(size-q.Y)*far) },
		func(q api.P) api.P { return at(q.X-q.Y*far, q.Y) },
		func(q api.P) api.P { return at(q.X*7-q.Y*3, q.Y*5+q.X*2) },
	}
}

// step is an edit to be asked for: an edge between nodes, one less, one along another line.
type step struct {
	kind, a, b int
	fresh      bool
	l          []api.P
}

// pick: an ID, mostly one that there is.
func pick[T any](r *rand.Rand, l []T, id func(T) int) int {
	if len(l) == 0 || r.Intn(20) == 0 {
		return r.Intn(9) - 3
	}
	return id(l[r.Intn(len(l))])
}

func pickNode(r *rand.Rand, p api.Plan) int {
	return pick(r, p.Nodes, func(n api.Node) int { return n.ID })
}

func pickEdge(r *rand.Rand, p api.Plan) int {
	return pick(r, p.Edges, func(e api.Edge) int { return e.ID })
}

// choose: an edit for the plan; false, if none comes to mind.
func choose(r *rand.Rand, p api.Plan) (step, bool) {
	s := step{kind: r.Intn(20), a: pickNode(r, p), b: pickNode(r, p), fresh: r.Intn(2) == 0}
	rest, from, to := p, api.P{}, api.P{}
	switch {
	case s.kind < 2:
		s.a = pickEdge(r, p)
		return s, true
	case s.kind < 15:
		if r.Intn(4) == 0 {
			s.b = s.a
		} else if e, ok := edge(p, pickEdge(r, p)); ok && r.Intn(2) == 0 {
			s.b = e.End
			if e, ok = edge(p, pickEdge(r, p)); ok {
				s.a = e.Start
			}
		}
		start, _ := node(p, s.a)
		end, _ := node(p, s.b)
		from, to = start.P, end.P
	default:
		s.a = pickEdge(r, p)
		if e, ok := edge(p, s.a); ok {
			rest.Edges = slices.DeleteFunc(slices.Clone(p.Edges), func(e api.Edge) bool { return e.ID == s.a })
			from, to = e.Line[0], e.Line[len(e.Line)-1]
		}
	}
	s.l = wander(r, boardOf(rest), from, to)
	if s.l == nil {
		return s, false
	}
	switch r.Intn(25) {
	case 0:
		s.l = append(s.l, s.l[len(s.l)-1])
	case 1:
		slices.Reverse(s.l)
	case 2:
		s.l = s.l[:len(s.l)-1]
	}
	return s, true
}

// kinds counts what was asked for.
type kinds struct {
	adds    [2][2 * outsideParted]int
	rems    [2][2]int
	changes int
	errs    map[api.Errno]int
}

// ask: what is told of a step, led elsewhere, and what should be, where it is.
func (k *kinds) ask(given api.Plan, p api.Plan, s step, to func(api.P) api.P) (got, want told) {
	fresh := 0
	if s.fresh {
		fresh = 1
	}
	switch {
	case s.kind < 2:
		unites := false
		got = rem(given, s.a, s.fresh)
		want, unites = remByWords(p, s.a, s.fresh)
		if unites {
			k.rems[fresh][min(want.n, 1)]++
		}
	case s.kind < 15:
		kind := 0
		got = add(given, s.a, s.b, movedLine(s.l, to), s.fresh)
		want, kind = addByWords(p, s.a, s.b, s.l, s.fresh)
		if want.e == api.OK {
			k.adds[fresh][kind]++
		}
	default:
		got = change(given, s.a, movedLine(s.l, to))
		want = changeByWords(p, s.a, s.l)
		if want.e == api.OK {
			k.changes++
		}
	}
	k.errs[want.e]++
	return got, want
}

// stroll: a plan with nodes alone here and there; often with a wall round them, in two pieces that turn either way.
func stroll(r *rand.Rand) api.Plan {
	var p api.Plan
	id, wall, f := 2, r.Intn(3) > 0, 0
	if wall {
		f = 1 + r.Intn(3)
		l := of(4, 0, size, 0, size, size, 5, size, 0, size, 0, 0, 4, 0)
		p.Nodes = []api.Node{{ID: 1, P: l[0], Face: -1}, {ID: 2, P: l[3], Face: -1}}
		p.Edges = []api.Edge{{ID: 2, Start: 1, End: 2, Line: l[:4], Left: f}, {ID: 3, Start: 2, End: 1, Line: l[3:], Left: f}}
		if r.Intn(2) == 0 {
			p.Edges[1] = api.Edge{ID: 3, Start: 1, End: 2, Line: points(p, -3), Right: f}
		}
	}
	for _, i := range r.Perm((size - 1) * (size - 1))[:6+r.Intn(14)] {
		id += 1 + r.Intn(3)
		p.Nodes = append(p.Nodes, api.Node{ID: id, P: at(1+int64(i%(size-1)), 1+int64(i/(size-1))), Face: f})
	}
	return p
}

// Promises 18.1 to 18.4 (W3, W4, W5, W7): edge after edge comes, goes elsewhere and goes, as the words have it; what was sound stays so, with a face a region, wherever it lies.
func TestWalks(t *testing.T) {
	r := noise()
	k := kinds{errs: map[api.Errno]int{}}
	for i := range 200 {
		to := leads()[i%len(leads())]
		p := stroll(r)
		for range 60 {
			s, ok := choose(r, p)
			if !ok {
				continue
			}
			before := moved(p, to)
			given := copyOf(before)
			got, want := k.ask(given, p, s, to)
			if want.e == api.OK {
				p = want.p
				want.p = moved(p, to)
			}
			hold(t, s, got, want)
			if !alike(given, before) {
				t.Error("what was handed in has changed")
			}
			if t.Failed() {
				t.Fatal(before)
			}
		}
	}
	for fresh := range 2 {
		for _, kind := range []int{joins, leftOuter, rightOuter, bothOuter, leftOuter + outsideParted, rightOuter + outsideParted} {
			if k.adds[fresh][kind] < 20 {
				t.Error("too few of a kind", k)
			}
		}
		if k.rems[fresh][0] < 20 || k.rems[fresh][1] < 20 {
			t.Error("too few of a kind", k)
		}
	}
	for _, e := range []api.Errno{api.ErrNode, api.ErrLine, api.ErrEnds, api.ErrCross, api.ErrEdge, api.ErrTurn, api.ErrSwept} {
		if k.errs[e] < 20 {
			t.Error("too few of a kind", e, k)
		}
	}
	if k.changes < 100 {
		t.Error("too few changes", k)
	}
	t.Log(k)
}

// shifted: the line with all points but its ends higher by so much.
func shifted(l []api.P, up int64) []api.P {
	l = slices.Clone(l)
	for i := 1; i < len(l)-1; i++ {
		l[i].Y += up
	}
	return l
}

// Promises 18.1 to 18.4: a plan as large as they may be is answered too.
func TestLargest(t *testing.T) {
	p := api.Plan{Nodes: []api.Node{{ID: 1, P: at(0, 0), Face: -1}, {ID: 2, P: at(700000, 0), Face: -1}}}
	for i := range api.MaxEdges { // one above the other, up and down; what is below an edge is at its right
		l := of(0, 0)
		for k := range int64(api.MaxVerts - 2) {
			l = append(l, at(10+10000*k, k%2*100000+int64(4*i)+1))
		}
		p.Edges = append(p.Edges, api.Edge{ID: i + 1, Start: 1, End: 2, Line: append(l, at(700000, 0)), Left: (i + 1) % api.MaxEdges, Right: i})
	}
	for i := range api.MaxNodes - 2 { // each between two edges, above a bend
		p.Nodes = append(p.Nodes, api.Node{ID: i + 3, P: at(300010, int64(4*i)+3), Face: i + 1})
	}
	sound(t, "the test's own plan", p)
	for id, c := range map[int]struct {
		f, fresh  int
		high, low api.Errno
	}{
		1: {0, 0, api.ErrSwept, api.OK}, 150: {149, 300, api.ErrSwept, api.ErrCross},
		199: {198, 300, api.OK, api.ErrCross}, 250: {249, 300, api.OK, api.OK}, api.MaxEdges: {0, 0, api.OK, api.OK},
	} {
		e, _ := edge(p, id)
		gone := rem(p, id, false)
		if gone.e != api.OK || gone.n != c.f {
			t.Error(id, gone.e, gone.n)
		}
		if again := add(gone.p, 1, 2, e.Line, false); again.e != api.OK || again.n != id || !alike(again.p, p) {
			t.Error(id, "came again otherwise", again.e, again.n)
		}
		if gone := rem(p, id, true); gone.e != api.OK || gone.n != c.fresh {
			t.Error(id, gone.e, gone.n)
		}
		for up, want := range map[int64]api.Errno{1: api.OK, 3: c.high, -2: c.low, 4: api.ErrCross} {
			if id == api.MaxEdges && up == 4 {
				want = api.OK // none is above it
			}
			if got := change(p, id, shifted(e.Line, up)); got.e != want {
				t.Error(id, up, got.e)
			}
		}
		if full := add(p, 1, 2, shifted(e.Line, 1), false); full.e != api.ErrMany {
			t.Error(id, full.e)
		}
	}
}

// roomy: the same plan, with lists that have room behind them, filled.
func roomy(p api.Plan) api.Plan {
	p = copyOf(p)
	p.Nodes = append(p.Nodes, api.Node{ID: 77})[:len(p.Nodes)]
	p.Edges = append(p.Edges, api.Edge{ID: 77})[:len(p.Edges)]
	for i, e := range p.Edges {
		p.Edges[i].Line = append(e.Line, at(7, 7))[:len(e.Line)]
	}
	return p
}

// whole: the plan with the room behind its lists.
func whole(p api.Plan) api.Plan {
	p.Nodes, p.Edges = p.Nodes[:cap(p.Nodes)], slices.Clone(p.Edges[:cap(p.Edges)])
	for i, e := range p.Edges {
		p.Edges[i].Line = e.Line[:cap(e.Line)]
	}
	return p
}

// smear writes over all lists of a plan, and over all of their room.
func smear(p api.Plan) {
	for _, e := range p.Edges[:cap(p.Edges)] {
		clear(e.Line[:cap(e.Line)])
	}
	clear(p.Nodes[:cap(p.Nodes)])
	clear(p.Edges[:cap(p.Edges)])
}

// Rule 3, promise 18.4: what is handed in stays as it is, and the room behind its lists; what is answered is new memory, its room too, no two lists of it the same.
func TestMemory(t *testing.T) {
	p := roomy(croft())
	before := copyOf(whole(p))
	lines := [][]api.P{of(0, 0, 11, 4, 19, 2, 20, 20), of(12, 4, 14, 6), of(12, 4, 17, 3, 17, 6, 15, 9, 13, 9, 12, 4), of(0, 0, 30, -30, 30, 30, 20, 20), of(0, 0, 10, 3, 20, 20), of(0, 0, 4, 3, 6, 0, 20, 0, 20, 20), of(40, 9, 40, 0), of(0, 0, 20, 20), nil}
	for _, full := range lines {
		l := append(slices.Clone(full), at(8, 8))[:len(full)]
		for _, ends := range [][2]int{{2, 3}, {8, 8}, {8, 9}, {31, 30}, {1, 1}} {
			for _, fresh := range []bool{false, true} {
				smear(add(p, ends[0], ends[1], l, fresh).p)
			}
		}
		for _, e := range p.Edges {
			smear(change(p, e.ID, l).p)
		}
		if !slices.Equal(l[:len(l)+1], append(slices.Clone(full), at(8, 8))) {
			t.Error("the line has changed", l, full)
		}
	}
	for _, id := range []int{1, 4, 5, 9, 12, 40, 41} {
		smear(rem(p, id, false).p)
		smear(rem(p, id, true).p)
	}
	if !reflect.DeepEqual(whole(p), before) {
		t.Error("what was handed in has changed")
	}
	for _, got := range []told{add(p, 2, 3, lines[0], true), rem(p, 5, false), change(p, 1, lines[3])} {
		lists := copyOf(got.p).Edges
		for i, e := range got.p.Edges {
			clear(e.Line[:cap(e.Line)])
			for k, f := range got.p.Edges {
				if k > i && !slices.Equal(f.Line, lists[k].Line) {
					t.Error("two lists of one answer share memory", i, k)
				}
			}
		}
	}
}

// raw: a plan in which nothing fits.
func raw(r *rand.Rand, nodes, edges int) api.Plan {
	odd := []int{1, 2, 3, 4, 5, 6, 0, -1, -2, -3, api.MaxID, api.MaxID + 1, math.MaxInt, math.MinInt, math.MinInt + 1}
	pick := func() int { return odd[r.Intn(len(odd))] }
	point := func() api.P {
		if r.Intn(9) == 0 {
			return at(int64(pick()), int64(pick()))
		}
		return at(r.Int63n(7), r.Int63n(7))
	}
	var p api.Plan
	for range nodes {
		p.Nodes = append(p.Nodes, api.Node{ID: pick(), P: point(), Face: pick()})
	}
	for range edges {
		e := api.Edge{ID: pick(), Start: pick(), End: pick(), Left: pick(), Right: pick()}
		for range r.Intn(6) {
			e.Line = append(e.Line, point())
		}
		if len(e.Line) > 2 && r.Intn(2) == 0 {
			e.End, e.Line = e.Start, append(e.Line, e.Line[0])
		}
		p.Edges = append(p.Edges, e)
	}
	return p
}

// Promise 18.4 (W9, W11): of plans in which nothing fits every call is answered, and they stay as they are.
func TestRaw(t *testing.T) {
	r := noise()
	changed := 0
	for i := range 3000 {
		p := raw(r, r.Intn(7), r.Intn(9))
		if i%1000 == 0 {
			p = raw(r, 300, 400)
		}
		given := copyOf(p)
		var all []told
		for _, start := range append(p.Nodes, api.Node{ID: 99}) {
			end := start
			if len(p.Nodes) > 0 {
				end = p.Nodes[r.Intn(len(p.Nodes))]
			}
			l := []api.P{start.P, at(r.Int63n(9), -1), at(-1, r.Int63n(9)), end.P}
			all = append(all, add(given, start.ID, end.ID, l, r.Intn(2) == 0))
		}
		for _, e := range append(p.Edges, api.Edge{ID: 99}) {
			start, _ := node(p, e.Start)
			end, _ := node(p, e.End)
			moved := change(given, e.ID, []api.P{start.P, at(r.Int63n(9), -1), at(-1, r.Int63n(9)), end.P})
			if moved.e == api.OK {
				changed++
			}
			all = append(all, rem(given, e.ID, i%2 == 0), moved)
		}
		for _, c := range all {
			if c.e != api.OK && (c.n != 0 || len(c.p.Nodes)+len(c.p.Edges) > 0) {
				t.Error("beside an error", c)
			}
		}
		if !alike(given, p) {
			t.Fatal("what was handed in has changed", p, given)
		}
	}
	if changed < 20 {
		t.Error("too few are answered", changed)
	}
}
