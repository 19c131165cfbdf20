package face_test

import (
	"cmp"
	"math"
	"math/rand"
	"reflect"
	"slices"
	"testing"

	"terrier/api"
	"terrier/face"
	"terrier/line"
	"terrier/plan"
	"terrier/ring"
)

const most = api.MaxGrid

func at(x, y int64) api.P { return api.P{X: x, Y: y} }

// of: the line through the points (n[0],n[1]), (n[2],n[3]) ..
func of(n ...int64) []api.P {
	var l []api.P
	for i := 0; i < len(n); i += 2 {
		l = append(l, at(n[i], n[i+1]))
	}
	return l
}

// noise is the same at each run, so that a failure comes again.
func noise() *rand.Rand { return rand.New(rand.NewSource(1)) }

func node(id int, x, y int64) api.Node {
	return api.Node{ID: id, P: at(x, y)}
}

func edge(id, start, end int, n ...int64) api.Edge {
	return api.Edge{ID: id, Start: start, End: end, Line: of(n...)}
}

// box: a closed edge, turning left, from (a,a) by (b,b).
func box(id, at int, a, b int64) api.Edge {
	return edge(id, at, at, a, a, b, a, b, b, a, b, a, a)
}

// square: four edges turning left.
func square() api.Plan {
	return api.Plan{
		Nodes: []api.Node{node(1, 0, 0), node(2, 4, 0), node(3, 4, 4), node(4, 0, 4)},
		Edges: []api.Edge{edge(1, 1, 2, 0, 0, 4, 0), edge(2, 2, 3, 4, 0, 4, 4), edge(3, 3, 4, 4, 4, 0, 4), edge(4, 4, 1, 0, 4, 0, 0)},
	}
}

// farm: a square of two edges (5 and 8) with a way across it (11); at its corner, within, a path (14) to a closed edge (20), in which another closed edge (21) lies, turning right, and a lone edge (22); above the way a lone edge (30), at which two paths end, and outside another one (23). Nodes that stand alone in all regions, not in their order.
func farm() api.Plan {
	return api.Plan{
		Nodes: []api.Node{
			node(2, 0, 0), node(3, 20, 20), node(5, 8, 4), node(6, 40, 0), node(7, 40, 9),
			node(12, 11, 5), node(13, 15, 5), node(14, 16, 6), node(15, 4, 12), node(16, 4, 15), node(17, 6, 15), node(18, 5, 19),
			node(99, 1, 19), node(50, 30, 30), node(41, 15, 1), node(40, 13, 7), node(39, 16, 5), node(38, 2, 18), node(37, -1, -1),
		},
		Edges: []api.Edge{
			edge(5, 2, 3, 0, 0, 20, 0, 20, 20),
			edge(8, 2, 3, 0, 0, 0, 20, 20, 20),
			edge(11, 3, 2, 20, 20, 0, 0),
			edge(14, 5, 2, 8, 4, 8, 2, 0, 0),
			edge(20, 5, 5, 8, 4, 18, 4, 18, 8, 9, 8, 8, 4),
			edge(21, 12, 12, 11, 5, 13, 6, 14, 5, 11, 5),
			edge(22, 13, 14, 15, 5, 16, 6),
			edge(23, 6, 7, 40, 0, 41, 4, 40, 9),
			edge(30, 15, 16, 4, 12, 4, 15),
			edge(31, 16, 17, 4, 15, 6, 15),
			edge(32, 18, 16, 5, 19, 4, 15),
		},
	}
}

// alike: are two lists of regions the same, nil and empty lists too?
func alike(a, b []face.Region) bool {
	return slices.EqualFunc(a, b, func(r, s face.Region) bool {
		return slices.Equal(r.Outer, s.Outer) && slices.Equal(r.Nodes, s.Nodes) && slices.EqualFunc(r.Inner, s.Inner, slices.Equal)
	})
}

// Promise 15.1: the first region has no outer ring, each outer ring has one, in Rings' order; inner rings and lone nodes are in the region in which they lie.
func TestRegions(t *testing.T) {
	inner := func(l ...[]int) [][]int { return l }
	lone := api.Plan{Nodes: []api.Node{node(9, 0, 0), node(3, 1, 1), node(4, 5, 5)}, Edges: []api.Edge{edge(7, 3, 4, 1, 1, 5, 5)}}
	right := api.Plan{Nodes: []api.Node{node(1, 0, 0)}, Edges: []api.Edge{edge(1, 1, 1, 0, 0, 0, 4, 4, 4, 0, 0)}}
	chord := square()
	chord.Edges = append(chord.Edges, edge(5, 3, 1, 4, 4, 0, 0))
	for i, c := range []struct {
		p    api.Plan
		want []face.Region
	}{
		{api.Plan{}, []face.Region{{}}},
		{square(), []face.Region{{Inner: inner([]int{-1, -4, -3, -2})}, {Outer: []int{1, 2, 3, 4}}}},
		{chord, []face.Region{{Inner: inner([]int{-1, -4, -3, -2})}, {Outer: []int{1, 2, 5}}, {Outer: []int{3, 4, -5}}}},
		{lone, []face.Region{{Inner: inner([]int{7, -7}), Nodes: []int{9}}}},
		{right, []face.Region{{Inner: inner([]int{1})}, {Outer: []int{-1}}}},
		{farm(), []face.Region{
			{Inner: inner([]int{-5, 8}, []int{23, -23}), Nodes: []int{37, 50}},
			{Outer: []int{5, 11, -14, -20, 14}, Nodes: []int{41}},
			{Outer: []int{-8, -11}, Inner: inner([]int{30, -32, 32, 31, -31, -30}), Nodes: []int{38, 99}},
			{Outer: []int{20}, Inner: inner([]int{21}, []int{22, -22}), Nodes: []int{39, 40}},
			{Outer: []int{-21}},
		}},
	} {
		if !sound(c.p) {
			t.Error("no sound plan", i)
		}
		if l := face.Regions(c.p); !alike(l, c.want) {
			t.Error(i, l)
		}
	}
}

// Promise 15.1: of the rings that hold a point that with the least area counts, whatever order they have, and however deep they lie.
func TestNested(t *testing.T) {
	r := noise()
	const deep = 12
	for range 40 {
		var p api.Plan
		ids := r.Perm(deep)
		for i, id := range ids { // the deeper, the greater i
			a, b := int64(5*i), int64(200-5*i)
			p.Nodes = append(p.Nodes, node(id+1, a, a), node(100+i, a+2, a+2), node(200+i, 300+a, 0))
			p.Edges = append(p.Edges, box(id+1, id+1, a, b))
		}
		r.Shuffle(len(p.Nodes), func(i, k int) { p.Nodes[i], p.Nodes[k] = p.Nodes[k], p.Nodes[i] })
		want := make([]face.Region, 1+deep)
		for i, id := range ids {
			around := 0
			if i > 0 {
				around = ids[i-1] + 1
			}
			want[around].Inner = append(want[around].Inner, []int{-id - 1})
			want[id+1].Outer, want[id+1].Nodes = []int{id + 1}, []int{100 + i}
			want[0].Nodes = append(want[0].Nodes, 200+i)
		}
		if l := face.Regions(p); !alike(l, want) {
			t.Fatal(l, want)
		}
		for i, id := range ids {
			x := int64(5*i + 3)
			if n, ok := face.At(p, at(x, 100)); n != id+1 || !ok {
				t.Fatal("At", i, n, ok)
			}
			if face.Of(p, id+1) != id+1 || face.Of(p, -id-1) != slices.IndexFunc(want, func(r face.Region) bool {
				return slices.ContainsFunc(r.Inner, func(l []int) bool { return l[0] == -id-1 })
			}) {
				t.Fatal("Of", i, face.Of(p, id+1), face.Of(p, -id-1))
			}
		}
	}
}

// Promise 15.2: Of is the number of the region at a way's left; -1 of what is no way.
func TestOf(t *testing.T) {
	p := farm()
	for way, want := range map[int]int{
		5: 1, -5: 0, 8: 0, -8: 2, 11: 1, -11: 2, 14: 1, -14: 1, 20: 3, -20: 1, 21: 3, -21: 4,
		22: 3, -22: 3, 23: 0, -23: 0, 30: 2, -30: 2, 31: 2, -31: 2, 32: 2, -32: 2,
		0: -1, 1: -1, -1: -1, 2: -1, 99: -1, math.MaxInt: -1, math.MinInt: -1,
	} {
		if n := face.Of(p, way); n != want {
			t.Error(way, n, want)
		}
	}
	for _, way := range []int{0, 1, -1, math.MinInt} {
		if n := face.Of(api.Plan{Nodes: p.Nodes}, way); n != -1 {
			t.Error("a way of a plan without edges", way, n)
		}
	}
}

// Promise 15.2: At is the region in which a point lies; false, and nothing else, of nodes and of points on edges.
func TestAt(t *testing.T) {
	p := farm()
	for q, want := range map[api.P]int{
		at(-1, 5): 0, at(21, 5): 0, at(5, -1): 0, at(5, 21): 0, at(19, 1): 1, at(2, 1): 1, at(9, 3): 1, at(1, 2): 2, at(5, 17): 2, at(5, 13): 2,
		at(17, 5): 3, at(13, 5): -1, at(12, 6): 3, at(10, 4): -1, at(14, 6): 3, at(16, 7): 3, at(15, 7): 3,
		at(0, 0): -1, at(8, 4): -1, at(13, 6): -1, at(30, 30): -1, at(50, 50): 0, at(99, 1): 0, at(7, 7): -1, at(20, 7): -1, at(4, 13): -1, at(8, 3): -1, at(5, 15): -1,
		at(40, 5): 0, at(41, 4): -1, at(20, 20): -1, at(4, 1): -1,
		at(most, most): 0, at(-most, 3): 0,
	} {
		n, ok := face.At(p, q)
		if ok != (want >= 0) || n != max(want, 0) {
			t.Error(q, n, ok, want)
		}
	}
	if n, ok := face.At(api.Plan{}, at(0, 0)); n != 0 || !ok {
		t.Error("the empty plan", n, ok)
	}
	tight := box(1, 1, 0, 2)
	if n, ok := face.At(api.Plan{Nodes: []api.Node{node(1, 0, 0)}, Edges: []api.Edge{tight}}, at(1, 1)); n != 1 || !ok {
		t.Error("within a small box", n, ok)
	}
}

// Promises 15.2, 15.3: a plan that goes round the whole grid; a point beyond the grid is no node, on no edge, and in the first region.
func TestBounds(t *testing.T) {
	p := api.Plan{Nodes: []api.Node{node(1, -most, -most), node(2, most-1, most-1), node(4, 0, 0)}, Edges: []api.Edge{box(3, 1, -most, most)}}
	if l, want := face.Regions(p), []face.Region{{Inner: [][]int{{-3}}}, {Outer: []int{3}, Nodes: []int{2, 4}}}; !alike(l, want) {
		t.Error(l)
	}
	far := []int64{math.MinInt64, -most - 1, -most, 1 - most, -1, 0, 1, most - 1, most, most + 1, math.MaxInt64}
	for _, x := range far {
		for _, y := range far {
			within := max(x, y) < most && min(x, y) > -most
			beyond := max(x, y) > most || min(x, y) < -most
			want := 0
			if within {
				want = 1
			}
			q := at(x, y)
			free := (within || beyond) && q != p.Nodes[1].P && q != p.Nodes[2].P
			if n, ok := face.At(p, q); ok != free || ok && n != want || !ok && n != 0 {
				t.Error(q, n, ok)
			}
		}
	}
}

// Promise 15.2: parts are edges that hang together by nodes; nodes alone make none.
func TestParts(t *testing.T) {
	ends := func(l ...[2]int) api.Plan {
		p := farm()
		p.Edges = nil
		for i, e := range l {
			p.Edges = append(p.Edges, edge(i+1, e[0], e[1]))
		}
		return p
	}
	for i, c := range []struct {
		p    api.Plan
		want int
	}{
		{api.Plan{}, 0},
		{api.Plan{Nodes: farm().Nodes}, 0},
		{square(), 1},
		{farm(), 5},
		{ends([2]int{1, 1}), 1},
		{ends([2]int{1, 1}, [2]int{2, 2}), 2},
		{ends([2]int{1, 2}, [2]int{3, 4}, [2]int{2, 3}), 1},
		{ends([2]int{1, 2}, [2]int{4, 3}, [2]int{5, 6}, [2]int{6, 1}), 2},
		{ends([2]int{1, 2}, [2]int{2, 1}, [2]int{1, 2}), 1},
		{ends([2]int{0, -1}, [2]int{math.MinInt, math.MaxInt}), 2},
	} {
		if n := face.Parts(c.p); n != c.want {
			t.Error(i, n, c.want)
		}
	}
}

// partsByWords: by edge, the number of the least edge that hangs together with it.
func partsByWords(p api.Plan) []int {
	l := make([]int, len(p.Edges))
	for i := range l {
		l[i] = i
	}
	for again := true; again; {
		again = false
		for i, e := range p.Edges {
			for k, f := range p.Edges {
				if l[k] < l[i] && (e.Start == f.Start || e.Start == f.End || e.End == f.Start || e.End == f.End) {
					l[i], again = l[k], true
				}
			}
		}
	}
	return l
}

// leastByWords: of the rings' numbers in outer that which holds q and has the least area, the first of such; -1.
func leastByWords(p api.Plan, rings [][]int, outer []int, q api.P) int {
	best, area := -1, int64(0)
	for _, i := range outer {
		l := plan.RingPoints(p, rings[i])
		if a := ring.Area2(l); ring.Holds(l, []api.P{q}) && (best < 0 || a < area) {
			best, area = i, a
		}
	}
	return best
}

// regionsByWords: what Regions, and by ring Of, should be; and how many inner rings would be elsewhere, if the rings of their own part were asked too.
func regionsByWords(p api.Plan) (l []face.Region, byRing []int, own int) {
	rings, parts := plan.Rings(p), partsByWords(p)
	part := func(ring []int) int {
		for i, e := range p.Edges {
			if e.ID == ring[0] || e.ID == -ring[0] {
				return parts[i]
			}
		}
		return -1
	}
	var outer []int
	l = []face.Region{{}}
	for i, r := range rings {
		if ring.Area2(plan.RingPoints(p, r)) > 0 {
			outer = append(outer, i)
			l = append(l, face.Region{Outer: r})
		}
	}
	for i, r := range rings {
		number := slices.Index(outer, i) + 1
		if points := plan.RingPoints(p, r); number == 0 && len(points) > 0 {
			others := slices.DeleteFunc(slices.Clone(outer), func(k int) bool { return part(rings[k]) == part(r) })
			number = slices.Index(outer, leastByWords(p, rings, others, points[0])) + 1
			if number != slices.Index(outer, leastByWords(p, rings, outer, points[0]))+1 {
				own++
			}
		}
		if !slices.Contains(outer, i) {
			l[number].Inner = append(l[number].Inner, r)
		}
		byRing = append(byRing, number)
	}
	for _, n := range p.Nodes {
		if !slices.ContainsFunc(p.Edges, func(e api.Edge) bool { return e.Start == n.ID || e.End == n.ID }) {
			number := slices.Index(outer, leastByWords(p, rings, outer, n.P)) + 1
			l[number].Nodes = append(l[number].Nodes, n.ID)
		}
	}
	for i := range l {
		slices.Sort(l[i].Nodes)
	}
	return l, byRing, own
}

// same holds the calls against the words, of a plan whose edges have IDs above 0; what regionsByWords tells of own parts.
func same(t *testing.T, p api.Plan) int {
	t.Helper()
	want, byRing, own := regionsByWords(p)
	if l := face.Regions(p); !alike(l, want) {
		t.Fatal("Regions", l, want, p)
	}
	for i, r := range plan.Rings(p) {
		for _, way := range r {
			if n := face.Of(p, way); n != byRing[i] {
				t.Fatal("Of", way, n, byRing[i], p)
			}
		}
	}
	least := partsByWords(p)
	slices.Sort(least)
	if n := face.Parts(p); n != len(slices.Compact(least)) {
		t.Fatal("Parts", n, least, p)
	}
	return own
}

// side: how long a web's squares are. Each triangle has one point of the grid within then, its sides two each between their ends.
const side = 3

// web is a sound plan, on a field of corners with some of the sides and diagonals between neighbours, and what lies at the left of each step of its lines.
type web struct {
	p         api.Plan
	size      int64
	triangles map[[2]api.P]int   // by step: the number of the triangle at its left, 0 of the outside
	within    map[api.P]int      // by corner or point within a triangle: the number of a triangle that has it
	between   map[api.P][2]api.P // by point between the ends of a side: a step along it
	region    []int              // by triangle: one of those with which it makes a region
	links     map[api.P][]api.P  // by corner: those to which lines lead
	isNode    map[api.P]int
}

// lay: a web of n by n squares, each cut in two, which has each side with the chance that keep tells; with isles all sides between what has unlike colours, too.
func lay(r *rand.Rand, n int64, isles bool, keep float64) *web {
	w := &web{
		size: n * side, triangles: map[[2]api.P]int{}, within: map[api.P]int{}, between: map[api.P][2]api.P{},
		region: []int{0}, links: map[api.P][]api.P{}, isNode: map[api.P]int{},
	}
	colour := []int{0}
	for x := range n {
		for y := range n {
			w.square(r, x*side, y*side)
			for range 2 {
				colour = append(colour, colourAt(r, isles, min(x, y, n-1-x, n-1-y)))
			}
		}
	}
	for _, step := range w.steps() {
		left, right := w.triangles[step], w.triangles[[2]api.P{step[1], step[0]}]
		if colour[left] != colour[right] || r.Float64() < keep {
			w.links[step[0]] = append(w.links[step[0]], step[1])
			w.links[step[1]] = append(w.links[step[1]], step[0])
		} else {
			w.unite(left, right)
		}
	}
	w.draw(r)
	w.stand(r, n)
	return w
}

// colourAt: most of what lies at one depth has one colour, so that there are rings within rings.
func colourAt(r *rand.Rand, isles bool, depth int64) int {
	switch {
	case !isles:
		return 0
	case r.Intn(20) == 0:
		return 9
	default:
		return int(1 + depth/2%2)
	}
}

// square cuts one in two triangles.
func (w *web) square(r *rand.Rand, x, y int64) {
	a, b, c, d := at(x, y), at(x+side, y), at(x+side, y+side), at(x, y+side)
	if r.Intn(2) == 0 {
		a, b, c, d = b, c, d, a
	}
	w.triangle(a, b, c)
	w.triangle(a, c, d)
}

func (w *web) triangle(l ...api.P) {
	n := len(w.region)
	w.region = append(w.region, n)
	for i, a := range l {
		b := l[(i+1)%3]
		step := [2]api.P{a, b}
		w.triangles[step], w.within[a] = n, n
		w.between[at((2*a.X+b.X)/3, (2*a.Y+b.Y)/3)] = step
		w.between[at((a.X+2*b.X)/3, (a.Y+2*b.Y)/3)] = step
	}
	w.within[at((l[0].X+l[1].X+l[2].X)/3, (l[0].Y+l[1].Y+l[2].Y)/3)] = n
}

// steps: each side of a triangle once, in a fixed order.
func (w *web) steps() [][2]api.P {
	var l [][2]api.P
	for step := range w.triangles {
		if back := [2]api.P{step[1], step[0]}; w.triangles[back] == 0 || before(step[0], step[1]) < 0 {
			l = append(l, step)
		}
	}
	slices.SortFunc(l, func(a, b [2]api.P) int { return cmp.Or(before(a[0], b[0]), before(a[1], b[1])) })
	return l
}

func before(a, b api.P) int { return cmp.Or(cmp.Compare(a.X, b.X), cmp.Compare(a.Y, b.Y)) }

func (w *web) of(triangle int) int {
	for w.region[triangle] != triangle {
		triangle = w.region[triangle]
	}
	return triangle
}

func (w *web) unite(a, b int) {
	a, b = w.of(a), w.of(b)
	w.region[max(a, b)] = min(a, b)
}

// draw makes nodes where a line must end, and at some other corners, and edges between them.
func (w *web) draw(r *rand.Rand) {
	var corners []api.P
	for p := range w.links {
		corners = append(corners, p)
	}
	slices.SortFunc(corners, before)
	for _, p := range corners {
		if len(w.links[p]) != 2 || r.Intn(2) == 0 {
			w.node(p)
		}
	}
	gone := map[[2]api.P]bool{}
	for _, n := range slices.Clone(w.p.Nodes) {
		for _, b := range w.links[n.P] {
			w.run(r, gone, n.P, b)
		}
	}
	for _, p := range corners { // what is left goes round without a node
		if w.isNode[p] == 0 && !gone[[2]api.P{p, w.links[p][0]}] {
			w.node(p)
			w.run(r, gone, p, w.links[p][0])
		}
	}
}

// run makes an edge from a node at a by b to the next node, unless it is there already.
func (w *web) run(r *rand.Rand, gone map[[2]api.P]bool, a, b api.P) {
	if gone[[2]api.P{a, b}] {
		return
	}
	l := []api.P{a, b}
	for w.isNode[b] == 0 {
		ahead := w.links[b][0]
		if ahead == a {
			ahead = w.links[b][1]
		}
		a, b = b, ahead
		l = append(l, b)
	}
	for i := 1; i < len(l); i++ {
		gone[[2]api.P{l[i-1], l[i]}], gone[[2]api.P{l[i], l[i-1]}] = true, true
	}
	if r.Intn(2) == 0 {
		slices.Reverse(l)
	}
	id := 1 + r.Intn(3)
	if n := len(w.p.Edges); n > 0 {
		id += w.p.Edges[n-1].ID
	}
	w.p.Edges = append(w.p.Edges, api.Edge{ID: id, Start: w.isNode[l[0]], End: w.isNode[l[len(l)-1]], Line: l})
}

func (w *web) node(p api.P) {
	w.isNode[p] = 2*len(w.isNode) + 1
	w.p.Nodes = append(w.p.Nodes, api.Node{ID: w.isNode[p], P: p})
}

// stand adds nodes that stand alone.
func (w *web) stand(r *rand.Rand, n int64) {
	for range 5 * n {
		q := at(r.Int63n(w.size+6)-3, r.Int63n(w.size+6)-3)
		if _, free := w.where(q); free {
			w.node(q)
		}
	}
}

// where: the region of w in which q lies; false, if q is a node or on an edge. No ray is asked: a point is a corner, on a side or within a triangle.
func (w *web) where(q api.P) (int, bool) {
	if w.isNode[q] != 0 {
		return 0, false
	}
	return w.lies(q)
}

// lies: likewise, as if no node were at q.
func (w *web) lies(q api.P) (int, bool) {
	if len(w.links[q]) > 0 {
		return 0, false
	}
	if step, is := w.between[q]; is {
		return w.of(w.triangles[step]), !slices.Contains(w.links[step[0]], step[1])
	}
	return w.of(w.within[q]), true
}

// left: the region of w at the left of a way.
func (w *web) left(way int) int {
	l := plan.Points(w.p, way)
	return w.of(w.triangles[[2]api.P{l[0], l[1]}])
}

// regions: what Regions should be, by w's own regions; and their numbers.
func (w *web) regions() ([]face.Region, map[int]int) {
	l, number := []face.Region{{}}, map[int]int{0: 0}
	rings := plan.Rings(w.p)
	outer := func(r []int) bool { return ring.Area2(plan.RingPoints(w.p, r)) > 0 }
	for _, r := range rings {
		if outer(r) {
			number[w.left(r[0])] = len(l)
			l = append(l, face.Region{Outer: r})
		}
	}
	for _, r := range rings {
		if n := number[w.left(r[0])]; !outer(r) {
			l[n].Inner = append(l[n].Inner, r)
		}
	}
	for _, n := range w.p.Nodes {
		if len(w.links[n.P]) == 0 {
			region, _ := w.lies(n.P)
			l[number[region]].Nodes = append(l[number[region]].Nodes, n.ID)
		}
	}
	for i := range l {
		slices.Sort(l[i].Nodes)
	}
	return l, number
}

// sound: are nodes and edges no more than there may be, and have the lines no point in common but nodes (16.1)?
func sound(p api.Plan) bool {
	if len(p.Nodes) > api.MaxNodes || len(p.Edges) > api.MaxEdges {
		return false
	}
	for i, e := range p.Edges {
		if !line.Ok(e.Line) {
			return false
		}
		for _, f := range p.Edges[:i] {
			if !line.Apart(e.Line, f.Line) {
				return false
			}
		}
		for _, n := range p.Nodes {
			if line.At(e.Line, n.P) >= 0 && n.ID != e.Start && n.ID != e.End {
				return false
			}
		}
	}
	return true
}

// webs: n of them, all kinds by turns.
func webs(t *testing.T, r *rand.Rand, n int) []*web {
	t.Helper()
	var l []*web
	for i := range n {
		keep := r.Float64()
		isles := i%2 == 0
		size := 1 + int64(i/2%8)
		if isles {
			keep, size = keep*0.03, size+5
		}
		w := lay(r, size, isles, keep)
		if !sound(w.p) {
			t.Fatal("no sound plan", w.p)
		}
		l = append(l, w)
	}
	return l
}

// Promises 15.1, 15.2: of sound plans Regions, Of and Parts are what the plans were put together of; the numbers agree with Euler's (W4).
func TestSound(t *testing.T) {
	var holes, nested, nodes, trees int
	for _, w := range webs(t, noise(), 128) {
		want, number := w.regions()
		l := face.Regions(w.p)
		if !alike(l, want) {
			t.Fatal("Regions", l, want, w.p)
		}
		for _, e := range w.p.Edges {
			if a, b := face.Of(w.p, e.ID), face.Of(w.p, -e.ID); a != number[w.left(e.ID)] || b != number[w.left(-e.ID)] {
				t.Fatal("Of", e.ID, a, b, w.p)
			}
		}
		lone := 0
		for i, r := range l {
			lone += len(r.Nodes)
			if i > 0 {
				holes += len(r.Inner)
				nodes += len(r.Nodes)
			}
			for _, hole := range r.Inner {
				if ring.Area2(plan.RingPoints(w.p, hole)) == 0 {
					trees++
				} else if i > 0 {
					nested++
				}
			}
		}
		if len(w.p.Nodes)-len(w.p.Edges)+len(l) != 1+face.Parts(w.p)+lone {
			t.Fatal("Euler", len(l), face.Parts(w.p), lone, w.p)
		}
		same(t, w.p)
	}
	if holes < 50 || nested < 30 || nodes < 50 || trees < 50 {
		t.Error("too few of a kind", holes, nested, nodes, trees)
	}
}

// Promises 15.2, 15.3 (W6): each point of the grid in and around a sound plan is a node, on an edge, or in one region, the one in which the plan's own triangles have it.
func TestEachPoint(t *testing.T) {
	var in, out int
	for _, w := range webs(t, noise(), 16) {
		_, number := w.regions()
		for x := int64(-2); x <= w.size+2; x++ {
			for y := int64(-2); y <= w.size+2; y++ {
				region, free := w.where(at(x, y))
				want := 0
				if free {
					want = number[region]
				}
				n, ok := face.At(w.p, at(x, y))
				if ok != free || n != want {
					t.Fatal(at(x, y), n, ok, want, free, w.p)
				}
				if want > 0 {
					in++
				} else if free {
					out++
				}
			}
		}
	}
	if in < 500 || out < 500 {
		t.Error("too few of a kind", in, out)
	}
}

// Promise 15.1 (W5): each region has the area of its triangles, and all of them together have what the outlines hold.
func TestAreas(t *testing.T) {
	for _, w := range webs(t, noise(), 80) {
		_, number := w.regions()
		want := map[int]int64{}
		for triangle := range w.region {
			if of := w.of(triangle); of != 0 {
				want[number[of]] += side * side
			}
		}
		area := func(l []int) int64 { return ring.Area2(plan.RingPoints(w.p, l)) }
		var inside, outline int64
		for i, r := range face.Regions(w.p) {
			sum := area(r.Outer)
			for _, l := range r.Inner {
				sum += area(l)
			}
			if i == 0 {
				outline = -sum
				continue
			}
			inside += sum
			if sum != want[i] {
				t.Fatal(i, sum, want[i], w.p)
			}
		}
		if inside != outline {
			t.Fatal(inside, outline, w.p)
		}
	}
}

// moved: the plan with each point led by f elsewhere.
func moved(p api.Plan, f func(api.P) api.P) api.Plan {
	p = copyOf(p)
	for i := range p.Nodes {
		p.Nodes[i].P = f(p.Nodes[i].P)
	}
	for _, e := range p.Edges {
		for i := range e.Line {
			e.Line[i] = f(e.Line[i])
		}
	}
	return p
}

// Promises 15.1, 15.2 (W1): regions are the same wherever a plan lies, however it is turned or drawn out, up to the grid's bounds.
func TestFar(t *testing.T) {
	r := noise()
	for _, w := range webs(t, r, 48) {
		want := face.Regions(w.p)
		spots := make([]api.P, 20)
		for i := range spots {
			spots[i] = at(r.Int63n(w.size+4)-2, r.Int63n(w.size+4)-2)
		}
		far := (most / (w.size + 4)) / 2
		for _, f := range []func(api.P) api.P{
			func(q api.P) api.P { return at(-q.Y, q.X) },
			func(q api.P) api.P { return at(most-2-w.size+q.X, -most+2+q.Y) },
			func(q api.P) api.P { return at(most-2-q.X*far, most-2-q.Y*far) },
			func(q api.P) api.P { return at(q.X+q.Y*far-far/2, q.Y) },
			func(q api.P) api.P { return at(q.X*far-(far-1)*q.Y, q.X) },
			func(q api.P) api.P { return at(-most+2+2*far*q.Y, most-2-2*far*q.X) },
		} {
			p := moved(w.p, f)
			if !sound(p) {
				t.Fatal("no sound plan", p)
			}
			if l := face.Regions(p); !alike(l, want) {
				t.Fatal("Regions", l, want, p)
			}
			if face.Parts(p) != face.Parts(w.p) {
				t.Fatal("Parts", p)
			}
			for _, q := range spots {
				n, ok := face.At(p, f(q))
				if m, is := face.At(w.p, q); n != m || ok != is {
					t.Fatal("At", q, n, ok, m, is, p)
				}
			}
		}
	}
}

// raw: a plan of that many nodes and edges in which nothing fits.
func raw(r *rand.Rand, nodes, edges int, ids []int, wild bool) api.Plan {
	pick := func() int { return ids[r.Intn(len(ids))] }
	number := func() int64 {
		bounds := []int64{most, -most, most + 1, 1 << 40, math.MaxInt64, math.MinInt64}
		if wild && r.Intn(4) == 0 {
			return bounds[r.Intn(len(bounds))]
		}
		return r.Int63n(12) - 5
	}
	var p api.Plan
	for range nodes {
		p.Nodes = append(p.Nodes, api.Node{ID: pick(), P: at(number(), number()), Face: pick()})
	}
	for range edges {
		e := api.Edge{ID: pick(), Start: pick(), End: pick(), Left: pick(), Right: pick()}
		for range r.Intn(7) {
			e.Line = append(e.Line, at(number(), number()))
		}
		if len(e.Line) > 2 && r.Intn(2) == 0 {
			e.End, e.Line = e.Start, append(e.Line, e.Line[0])
		}
		p.Edges = append(p.Edges, e)
	}
	return p
}

// ends: whatever the plan is, the calls agree with each other.
func ends(t *testing.T, p api.Plan) {
	t.Helper()
	l := face.Regions(p)
	var rings [][]int
	nodes := 0
	for i, r := range l {
		if (len(r.Outer) == 0) != (i == 0) {
			t.Fatal("outer rings", i, l, p)
		}
		all := slices.Clone(r.Inner)
		if i > 0 {
			all = append(all, r.Outer)
		}
		for _, ways := range all {
			for _, way := range ways {
				if face.Of(p, way) != i {
					t.Fatal("Of", way, face.Of(p, way), i, p)
				}
			}
		}
		rings = append(rings, all...)
		nodes += len(r.Nodes)
		if !slices.IsSorted(r.Nodes) {
			t.Fatal("nodes", r.Nodes, p)
		}
	}
	want := plan.Rings(p)
	slices.SortFunc(rings, slices.Compare)
	slices.SortFunc(want, slices.Compare)
	if !slices.EqualFunc(rings, want, slices.Equal) {
		t.Fatal("not each ring is of one region", rings, want, p)
	}
	for _, n := range p.Nodes {
		if slices.ContainsFunc(p.Edges, func(e api.Edge) bool { return e.Start == n.ID || e.End == n.ID }) {
			nodes++
		}
		if i, ok := face.At(p, n.P); i != 0 || ok {
			t.Fatal("At", n, i, ok, p)
		}
	}
	if nodes != len(p.Nodes) {
		t.Fatal("nodes", nodes, p)
	}
	for x := int64(-6); x < 8; x += 3 {
		for _, y := range []int64{-3, 0, 1, 4, most, math.MaxInt64, math.MinInt64} {
			if i, ok := face.At(p, at(x, y)); i < 0 || i >= len(l) || i > 0 && !ok {
				t.Fatal("At", x, y, i, ok, p)
			}
		}
	}
	if n := face.Parts(p); n < 0 || n > len(p.Edges) || n == 0 && len(p.Edges) > 0 {
		t.Fatal("Parts", n, p)
	}
}

// Promise 15.4 (15.1, 15.2): of plans in which nothing fits every call is answered, as far as the words go by them.
func TestRaw(t *testing.T) {
	r := noise()
	some := []int{1, 2, 3, 4, 5, 6, 7, 8, 9, 10, 11, 12, 13, 14, 1000000}
	odd := append([]int{0, -1, -2, 7, math.MaxInt, math.MinInt, math.MinInt + 1}, some...)
	own := 0
	for i := range 400 {
		ends(t, raw(r, r.Intn(9), r.Intn(11), odd, true))
		p := raw(r, r.Intn(9), r.Intn(14), some, i%2 == 0)
		ends(t, p)
		for k := range p.Edges { // the words' parts know no edges that share an ID
			p.Edges[k].ID = 40 - 2*k
		}
		own += same(t, p)
	}
	if own < 20 {
		t.Error("too few rings that lie in one of their own part", own)
	}
}

// Promise 15.1: a ring is not asked whether it holds one of its own part, also where no sound plan would have it there; a point is asked of all parts.
func TestOwnPart(t *testing.T) {
	p := api.Plan{
		Nodes: []api.Node{node(1, 5, 5), node(2, 0, 0), node(8, 7, 2)},
		Edges: []api.Edge{box(1, 1, 5, 8), box(2, 2, 0, 20)},
	}
	if l, want := face.Regions(p), []face.Region{{Inner: [][]int{{-2}}}, {Outer: []int{1}}, {Outer: []int{2}, Inner: [][]int{{-1}}, Nodes: []int{8}}}; !alike(l, want) {
		t.Error("two parts", l)
	}
	p.Edges = append(p.Edges, edge(3, 1, 2)) // without a line; by it all is one part
	if l, want := face.Regions(p), []face.Region{{Inner: [][]int{{-1, 3, -2, -3}}}, {Outer: []int{1}}, {Outer: []int{2}, Nodes: []int{8}}}; !alike(l, want) {
		t.Error("one part", l)
	}
	if same(t, p) != 1 || face.Parts(p) != 1 || face.Of(p, -1) != 0 {
		t.Error("a ring within one of its own part", face.Parts(p), face.Of(p, -1))
	}
	if n, ok := face.At(p, at(7, 3)); n != 2 || !ok {
		t.Error("a point", n, ok)
	}
}

// Promise 15.4: plans as large as they may be: boxes in boxes, boxes side by side, a path, and nothing that fits.
func TestLarge(t *testing.T) {
	var deep, wide, path api.Plan
	for i := range api.MaxNodes {
		n := int64(i)
		deep.Nodes, deep.Edges = append(deep.Nodes, node(i+1, n, n)), append(deep.Edges, box(i+1, i+1, n, 1000-n))
		wide.Nodes, wide.Edges = append(wide.Nodes, node(i+1, 5*n, 5*n)), append(wide.Edges, box(i+1, i+1, 5*n, 5*n+4))
		path.Nodes, path.Edges = append(path.Nodes, node(i+1, n, 0)), append(path.Edges, edge(i+1, i+1, i+2, n, 0, n+1, 0))
	}
	path.Nodes, path.Edges = path.Nodes[:api.MaxNodes-1], path.Edges[:api.MaxNodes-2]
	if l := face.Regions(deep); len(l) != api.MaxNodes+1 || slices.ContainsFunc(l[:api.MaxNodes], func(r face.Region) bool { return len(r.Inner) != 1 }) {
		t.Error("deep", len(l))
	}
	if l := face.Regions(wide); len(l) != api.MaxNodes+1 || len(l[0].Inner) != api.MaxNodes || face.Parts(wide) != api.MaxNodes {
		t.Error("wide", len(l))
	}
	if l := face.Regions(path); len(l) != 1 || len(l[0].Inner) != 1 || len(l[0].Nodes) != 0 || face.Parts(path) != 1 {
		t.Error("path", l)
	}
	if n, ok := face.At(deep, at(500, 500)); n != api.MaxNodes || !ok {
		t.Error("At", n, ok)
	}
	ids := make([]int, 900)
	for i := range ids {
		ids[i] = i - 100
	}
	ends(t, raw(noise(), api.MaxNodes, api.MaxEdges, ids, true))
	ends(t, path)
}

// combs: closed edges of as many points as a line may have, up and down one above the other: all of their boxes overlap, so that no box tells that a ring is far from a point.
func combs() api.Plan {
	var p api.Plan
	const turns = api.MaxVerts/2 - 1
	for i := range api.MaxNodes {
		low := make([]api.P, turns)
		high := make([]api.P, turns)
		for k := range int64(turns) {
			low[k] = at(100*k, k%2*100000+int64(4*i))
			high[turns-1-k] = at(low[k].X, low[k].Y+2)
		}
		p.Nodes = append(p.Nodes, api.Node{ID: i + 1, P: low[0]})
		p.Edges = append(p.Edges, api.Edge{ID: i + 1, Start: i + 1, End: i + 1, Line: slices.Concat(low, high, low[:1])})
	}
	return p
}

// Promise 15.4 (15.1): the largest rings, all of them near each other, of like areas.
func TestCombs(t *testing.T) {
	p := combs()
	if n := len(p.Edges[0].Line); n != api.MaxVerts-1 || !line.Ok(p.Edges[0].Line) || !line.Apart(p.Edges[0].Line, p.Edges[1].Line) {
		t.Fatal("no sound plan", n)
	}
	want := make([]face.Region, 1+len(p.Edges))
	for i, e := range p.Edges {
		want[i+1].Outer = []int{e.ID}
		want[0].Inner = append(want[0].Inner, []int{-e.ID})
	}
	if l := face.Regions(p); !alike(l, want) {
		t.Error(l)
	}
	if n, ok := face.At(p, at(100, 100001)); n != 1 || !ok {
		t.Error(n, ok)
	}
}

// copyOf: the same plan in memory of its own.
func copyOf(p api.Plan) api.Plan {
	p.Nodes, p.Edges = slices.Clone(p.Nodes), slices.Clone(p.Edges)
	for i := range p.Edges {
		p.Edges[i].Line = slices.Clone(p.Edges[i].Line)
	}
	return p
}

// roomy: the same plan, with lists that have room behind them, filled.
func roomy(p api.Plan) api.Plan {
	p = copyOf(p)
	p.Nodes = append(p.Nodes, node(77, 7, 7))[:len(p.Nodes)]
	p.Edges = append(p.Edges, edge(77, 7, 7))[:len(p.Edges)]
	for i, e := range p.Edges {
		p.Edges[i].Line = append(e.Line, at(7, 7))[:len(e.Line)]
	}
	return p
}

// whole: the plan with the room behind its lists.
func whole(p api.Plan) api.Plan {
	p.Nodes, p.Edges = p.Nodes[:cap(p.Nodes)], slices.Clone(p.Edges[:cap(p.Edges)])
	for i, e := range p.Edges {
		p.Edges[i].Line = e.Line[:cap(e.Line)]
	}
	return p
}

// smear writes over a list, and over all of its room.
func smear[T any](l []T) {
	clear(l[:cap(l)])
}

// Rule 3: what is handed in is not changed, nor the room behind its lists; what is answered is new memory, its room too.
func TestMemory(t *testing.T) {
	p := roomy(farm())
	before := copyOf(whole(p))
	want := face.Regions(farm())
	for i := range want { // one region after the other is written over: the rest stays
		l := face.Regions(p)
		for _, inner := range l[i].Inner {
			smear(inner)
		}
		smear(l[i].Inner)
		smear(l[i].Outer)
		smear(l[i].Nodes)
		l[i] = want[i]
		if !alike(l, want) {
			t.Error("two lists of one answer share memory", i, l)
		}
	}
	l := face.Regions(p)
	smear(l[1].Nodes)
	smear(l[3].Inner[0])
	l[1].Nodes, l[3].Inner[0] = want[1].Nodes, want[3].Inner[0]
	if !alike(l, want) {
		t.Error("two lists of one region share memory", l)
	}
	face.Of(p, 20)
	face.At(p, at(1, 2))
	face.Parts(p)
	if !reflect.DeepEqual(whole(p), before) {
		t.Error("what was handed in has changed", p)
	}
	if !alike(face.Regions(p), want) {
		t.Error("Regions")
	}
}

// Rules 5 and 6 of the language and the document: no answer hangs on the order of maps, nor on that of the plan's lists, but where IDs are shared.
func TestOrder(t *testing.T) {
	r := noise()
	p := farm()
	want := face.Regions(p)
	for range 50 {
		r.Shuffle(len(p.Edges), func(i, k int) { p.Edges[i], p.Edges[k] = p.Edges[k], p.Edges[i] })
		r.Shuffle(len(p.Nodes), func(i, k int) { p.Nodes[i], p.Nodes[k] = p.Nodes[k], p.Nodes[i] })
		if l := face.Regions(p); !alike(l, want) {
			t.Fatal(l, p)
		}
		if face.Parts(p) != 5 || face.Of(p, -20) != 1 {
			t.Fatal(face.Parts(p), face.Of(p, -20), p)
		}
	}
}
