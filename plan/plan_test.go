package plan_test

import (
	"cmp"
	"math"
	"math/big"
	"math/rand"
	"reflect"
	"slices"
	"testing"

	"terrier/api"
	"terrier/line"
	"terrier/plan"
	"terrier/ring"
)

const most = api.MaxGrid

func at(x, y int64) api.P { return api.P{X: x, Y: y} }

// of: the line through the points (n[0],n[1]), (n[2],n[3]) ..
func of(n ...int64) []api.P {
	var l []api.P
	for i := 0; i < len(n); i += 2 {
		l = append(l, at(n[i], n[i+1]))
	}
	return l
}

// noise is the same at each run, so that a failure comes again.
func noise() *rand.Rand { return rand.New(rand.NewSource(1)) }

func edge(id, start, end int, n ...int64) api.Edge {
	return api.Edge{ID: id, Start: start, End: end, Line: of(n...)}
}

// square: four edges turning left.
func square() api.Plan {
	return api.Plan{
		Nodes: []api.Node{{ID: 1, P: at(0, 0)}, {ID: 2, P: at(4, 0)}, {ID: 3, P: at(4, 4)}, {ID: 4, P: at(0, 4)}},
		Edges: []api.Edge{edge(1, 1, 2, 0, 0, 4, 0), edge(2, 2, 3, 4, 0, 4, 4), edge(3, 3, 4, 4, 4, 0, 4), edge(4, 4, 1, 0, 4, 0, 0)},
	}
}

// farm: a square of two edges (5 and 8), a way across it (11), a path that ends within (14), a closed edge at the path's end (20), a lone edge outside (23), and a node that stands alone.
func farm() api.Plan {
	return api.Plan{
		Nodes: []api.Node{
			{ID: 2, P: at(0, 0), Face: -1}, {ID: 3, P: at(10, 10), Face: -1}, {ID: 5, P: at(4, 2), Face: -1},
			{ID: 6, P: at(20, 0), Face: -1}, {ID: 7, P: at(20, 9), Face: -1}, {ID: 9, P: at(1, 9), Face: 3},
		},
		Edges: []api.Edge{
			edge(5, 2, 3, 0, 0, 10, 0, 10, 10),
			edge(8, 2, 3, 0, 0, 0, 10, 10, 10),
			edge(11, 3, 2, 10, 10, 0, 0),
			edge(14, 5, 2, 4, 2, 4, 1, 0, 0),
			edge(20, 5, 5, 4, 2, 8, 2, 8, 4, 4, 2),
			edge(23, 6, 7, 20, 0, 21, 4, 20, 9),
		},
	}
}

// numbers: what may be a way or an ID of p, and what is none of them.
func numbers(p api.Plan) []int {
	l := []int{0, 1, -1, 99, -99, math.MaxInt, math.MinInt}
	for _, e := range p.Edges {
		l = append(l, e.ID, -e.ID)
	}
	slices.Sort(l)
	return slices.Compact(l)
}

// nodesOf: the numbers that p has for nodes, in whatever place, and what is none.
func nodesOf(p api.Plan) []int {
	l := []int{0, 1, -1, 99, math.MaxInt, math.MinInt}
	for _, n := range p.Nodes {
		l = append(l, n.ID)
	}
	for _, e := range p.Edges {
		l = append(l, e.Start, e.End)
	}
	slices.Sort(l)
	return slices.Compact(l)
}

// edgeByWords: the edge of a way of a plan whose IDs are above 0.
func edgeByWords(p api.Plan, way int) (api.Edge, bool) {
	for _, e := range p.Edges {
		if e.ID == way || e.ID == -way {
			return e, true
		}
	}
	return api.Edge{}, false
}

func fromByWords(p api.Plan, way int) int {
	e, _ := edgeByWords(p, way)
	if way < 0 {
		return e.End
	}
	return e.Start
}

func pointsByWords(p api.Plan, way int) []api.P {
	e, _ := edgeByWords(p, way)
	var l []api.P
	for i := range e.Line {
		if way < 0 {
			i = len(e.Line) - 1 - i
		}
		l = append(l, e.Line[i])
	}
	return l
}

// angle is told by a quarter of the circle, and how steep the direction is within it; one that is none has the quarter 4.
type angle struct {
	quarter int
	steep   *big.Rat
}

func angleByWords(l []api.P) angle {
	if len(l) < 2 || l[0] == l[1] {
		return angle{4, new(big.Rat)}
	}
	x, y := l[1].X-l[0].X, l[1].Y-l[0].Y
	quarter := 0
	for !(x > 0 && y >= 0) {
		x, y = y, -x
		quarter++
	}
	return angle{quarter, big.NewRat(y, x)}
}

func (a angle) cmp(b angle) int {
	return cmp.Or(cmp.Compare(a.quarter, b.quarter), a.steep.Cmp(b.steep))
}

// waysByWords: all ways of p, by their edges' IDs, along ahead of against.
func waysByWords(p api.Plan) []int {
	var l []int
	for _, e := range p.Edges {
		if !slices.Contains(l, e.ID) {
			l = append(l, e.ID, -e.ID)
		}
	}
	slices.SortFunc(l, func(a, b int) int { return cmp.Or(cmp.Compare(max(a, -a), max(b, -b)), cmp.Compare(b, a)) })
	return l
}

func roundByWords(p api.Plan, node int) []int {
	var l []int
	for _, way := range waysByWords(p) {
		if fromByWords(p, way) == node {
			l = append(l, way)
		}
	}
	slices.SortFunc(l, func(a, b int) int {
		return cmp.Or(angleByWords(pointsByWords(p, a)).cmp(angleByWords(pointsByWords(p, b))), cmp.Compare(a, b))
	})
	return l
}

func nextByWords(p api.Plan, way int) int {
	if _, is := edgeByWords(p, way); !is {
		return 0
	}
	l := roundByWords(p, fromByWords(p, -way))
	i := slices.Index(l, -way)
	if i == 0 {
		return l[len(l)-1]
	}
	return l[i-1]
}

func ringByWords(p api.Plan, way int) []int {
	var l []int
	for way != 0 && !slices.Contains(l, way) {
		l = append(l, way)
		way = nextByWords(p, way)
	}
	return l
}

func ringsByWords(p api.Plan) [][]int {
	var rings [][]int
	for _, way := range waysByWords(p) {
		if !slices.ContainsFunc(rings, func(l []int) bool { return slices.Contains(l, way) }) {
			rings = append(rings, ringByWords(p, way))
		}
	}
	return rings
}

// same holds every call against the words, of a plan whose IDs are above 0.
func same(t *testing.T, p api.Plan) {
	t.Helper()
	for _, way := range numbers(p) {
		_, is := edgeByWords(p, way)
		if from, to := plan.From(p, way), plan.To(p, way); is && (from != fromByWords(p, way) || to != fromByWords(p, -way)) || !is && from|to != 0 {
			t.Fatal("From, To", way, from, to, p)
		}
		if l := plan.Points(p, way); !slices.Equal(l, pointsByWords(p, way)) {
			t.Fatal("Points", way, l, p)
		}
		if n := plan.Next(p, way); n != nextByWords(p, way) {
			t.Fatal("Next", way, n, nextByWords(p, way), p)
		}
	}
	for _, node := range nodesOf(p) {
		l := plan.Round(p, node)
		if !slices.Equal(l, roundByWords(p, node)) || plan.Degree(p, node) != len(l) {
			t.Fatal("Round, Degree", node, l, roundByWords(p, node), plan.Degree(p, node), p)
		}
	}
	rings := plan.Rings(p)
	if want := ringsByWords(p); !slices.EqualFunc(rings, want, slices.Equal) {
		t.Fatal("Rings", rings, want, p)
	}
	for _, l := range rings {
		turned := l
		for range l {
			if r := plan.Ring(p, turned[0]); !slices.Equal(r, turned) {
				t.Fatal("Ring", r, turned, p)
			}
			turned = slices.Concat(turned[1:], turned[:1])
		}
		var points []api.P
		for _, way := range l {
			w := pointsByWords(p, way)
			points = append(points, w[:max(0, len(w)-1)]...)
		}
		if r := plan.RingPoints(p, l); !slices.Equal(r, points) {
			t.Fatal("RingPoints", l, r, points, p)
		}
	}
}

// Promise 14.1: Node and Edge are the first of that ID; false, and nothing else, if there is none.
func TestNodeEdge(t *testing.T) {
	p := farm()
	p.Nodes = append(p.Nodes, api.Node{ID: 5, P: at(7, 7)}, api.Node{ID: 0, P: at(8, 8), Face: 6}, api.Node{ID: -4, P: at(9, 8)})
	p.Edges = append(p.Edges, edge(8, 6, 6, 1, 1), edge(-6, 1, 1, 7, 7), api.Edge{ID: 0, Left: 7, Right: 8})
	for id, want := range map[int]api.Node{5: p.Nodes[2], 9: p.Nodes[5], 0: p.Nodes[7], -4: p.Nodes[8]} {
		if n, ok := plan.Node(p, id); n != want || !ok {
			t.Error(id, n, ok)
		}
	}
	for id, want := range map[int]api.Edge{5: p.Edges[0], 8: p.Edges[1], 23: p.Edges[5], -6: p.Edges[7], 0: p.Edges[8]} {
		if e, ok := plan.Edge(p, id); !reflect.DeepEqual(e, want) || !ok {
			t.Error(id, e, ok)
		}
	}
	for _, id := range []int{1, 4, 6, -5, -8, 99, math.MaxInt, math.MinInt} {
		if n, ok := plan.Node(p, id); id != 6 && (ok || n != api.Node{}) {
			t.Error("node", id, n, ok)
		}
		if e, ok := plan.Edge(p, id); ok || !reflect.DeepEqual(e, api.Edge{}) {
			t.Error("edge", id, e, ok)
		}
	}
	if _, ok := plan.Node(api.Plan{}, 0); ok {
		t.Error("a node of the empty plan")
	}
	if _, ok := plan.Edge(api.Plan{}, 0); ok {
		t.Error("an edge of the empty plan")
	}
}

// Promise 14.1: From, To and Points of ways along an edge, against it, and of what is none.
func TestWays(t *testing.T) {
	p := farm()
	for _, c := range []struct {
		way, from, to int
		points        []api.P
	}{
		{5, 2, 3, of(0, 0, 10, 0, 10, 10)},
		{-5, 3, 2, of(10, 10, 10, 0, 0, 0)},
		{14, 5, 2, of(4, 2, 4, 1, 0, 0)},
		{-14, 2, 5, of(0, 0, 4, 1, 4, 2)},
		{20, 5, 5, of(4, 2, 8, 2, 8, 4, 4, 2)},
		{-20, 5, 5, of(4, 2, 8, 4, 8, 2, 4, 2)},
		{0, 0, 0, nil},
		{6, 0, 0, nil},
		{-6, 0, 0, nil},
		{math.MaxInt, 0, 0, nil},
		{math.MinInt, 0, 0, nil},
	} {
		if from, to := plan.From(p, c.way), plan.To(p, c.way); from != c.from || to != c.to {
			t.Error(c.way, from, to)
		}
		if l := plan.Points(p, c.way); !slices.Equal(l, c.points) {
			t.Error(c.way, l)
		}
	}
	same(t, p)
}

// Promise 14.1: Round goes by the directions of the first segments, from that of (1, 0) on, turning to the left; Degree counts.
func TestRound(t *testing.T) {
	p := farm()
	for node, want := range map[int][]int{
		2: {5, -14, -11, 8}, 3: {-8, 11, -5}, 5: {20, -20, 14}, 6: {23}, 7: {-23},
		9: nil, 1: nil, 0: nil, -2: nil, math.MinInt: nil,
	} {
		if l := plan.Round(p, node); !slices.Equal(l, want) || plan.Degree(p, node) != len(want) {
			t.Error(node, l, plan.Degree(p, node))
		}
	}
}

// Promise 14.1: in Round, what has a like direction comes by its number, the lesser first; what has none comes behind all, likewise.
func TestRoundAlike(t *testing.T) {
	p := api.Plan{Edges: []api.Edge{
		edge(7, 1, 2, 0, 0, 6, 3),
		edge(3, 1, 1, 0, 0, 2, 1, 0, 0),
		edge(4, 2, 1, 9, 9, 4, 2, 0, 0),
		edge(5, 1, 2),
		edge(9, 2, 1, 1, 1),
		edge(6, 1, 2, 2, 2, 2, 2, 5, 5),
		edge(2, 1, 2, 0, 0, 1, -1),
	}}
	if l, want := plan.Round(p, 1), []int{-4, -3, 3, 7, 2, -9, 5, 6}; !slices.Equal(l, want) {
		t.Error(l)
	}
	same(t, p)
}

// Promise 14.1: Next turns to the right from less way; of the first in Round's order it is the last one, of an only one less way itself.
func TestNext(t *testing.T) {
	p := farm()
	for way, want := range map[int]int{
		5: 11, -5: 8, 8: -5, -8: -11, 11: -14, -11: -8, 14: 5, -14: -20, 20: 20, -20: 14, 23: -23, -23: 23,
		0: 0, 6: 0, -6: 0, math.MaxInt: 0, math.MinInt: 0,
	} {
		if n := plan.Next(p, way); n != want {
			t.Error(way, n, want)
		}
	}
}

// Promise 14.1: Ring begins with the way that was asked for, Rings with the least ones, along an edge ahead of against it.
func TestRings(t *testing.T) {
	for i, c := range []struct {
		p     api.Plan
		rings [][]int
	}{
		{api.Plan{}, nil},
		{api.Plan{Nodes: farm().Nodes}, nil},
		{square(), [][]int{{1, 2, 3, 4}, {-1, -4, -3, -2}}},
		{farm(), [][]int{{5, 11, -14, -20, 14}, {-5, 8}, {-8, -11}, {20}, {23, -23}}},
	} {
		if rings := plan.Rings(c.p); !slices.EqualFunc(rings, c.rings, slices.Equal) {
			t.Error(i, rings)
		}
	}
	p := farm()
	for way, want := range map[int][]int{
		14: {14, 5, 11, -14, -20}, -11: {-11, -8}, 20: {20}, -23: {-23, 23}, 0: nil, 6: nil, -6: nil, math.MinInt: nil,
	} {
		if l := plan.Ring(p, way); !slices.Equal(l, want) {
			t.Error(way, l)
		}
	}
}

// Promise 14.1: a ring begins with its least way whatever order the edges have in the plan, and rings come by these.
func TestRingsOrder(t *testing.T) {
	r := noise()
	p := farm()
	want := plan.Rings(p)
	for range 50 {
		r.Shuffle(len(p.Edges), func(i, k int) { p.Edges[i], p.Edges[k] = p.Edges[k], p.Edges[i] })
		if rings := plan.Rings(p); !slices.EqualFunc(rings, want, slices.Equal) {
			t.Fatal(rings, p.Edges)
		}
		same(t, p)
	}
}

// Promise 14.1: RingPoints leaves out the last point of each way, which the next one has; it takes any list of ways.
func TestRingPoints(t *testing.T) {
	p := farm()
	p.Edges = append(p.Edges, edge(40, 2, 3), edge(41, 2, 3, 6, 6))
	for i, c := range []struct {
		ring   []int
		points []api.P
	}{
		{nil, nil},
		{[]int{-5, 8}, of(10, 10, 10, 0, 0, 0, 0, 10)},
		{[]int{20}, of(4, 2, 8, 2, 8, 4)},
		{[]int{23, -23}, of(20, 0, 21, 4, 20, 9, 21, 4)},
		{[]int{11, 11, 20}, of(10, 10, 10, 10, 4, 2, 8, 2, 8, 4)},
		{[]int{40, 41, -40, -41}, nil},
		{[]int{0, 6, -6, 11, math.MinInt, math.MaxInt}, of(10, 10)},
	} {
		if l := plan.RingPoints(p, c.ring); !slices.Equal(l, c.points) {
			t.Error(i, l)
		}
	}
}

// Promise 14.1: where several edges have one ID, its ways are those of the first one.
func TestFirstOfAnID(t *testing.T) {
	p := api.Plan{Edges: []api.Edge{edge(1, 1, 2, 0, 0, 4, 0), edge(1, 2, 3, 4, 0, 4, 4), edge(2, 2, 1, 4, 0, 0, 4, 0, 0), edge(2, 1, 2, 5, 5, 6, 6)}}
	if l := plan.Round(p, 2); !slices.Equal(l, []int{2, -1}) || plan.Degree(p, 2) != 2 {
		t.Error(l)
	}
	if plan.Degree(p, 3) != 0 || plan.To(p, 1) != 2 {
		t.Error(plan.Round(p, 3))
	}
	if rings, want := plan.Rings(p), [][]int{{1, 2}, {-1, -2}}; !slices.EqualFunc(rings, want, slices.Equal) {
		t.Error(rings)
	}
	same(t, p)
}

// star: edges from a node, or to it, to other points of the grid, whole ones or its bounds, with unlike directions or like ones.
func star(r *rand.Rand, n int) api.Plan {
	corner := []int64{-most, 1 - most, -1, 0, 1, most - 1, most}
	number := func() int64 {
		if r.Intn(3) == 0 {
			return r.Int63n(2*most+1) - most
		}
		return corner[r.Intn(len(corner))]
	}
	p := api.Plan{Nodes: []api.Node{{ID: 1, P: at(number(), number())}}}
	for i := range n {
		e := api.Edge{ID: 1 + r.Intn(3*n), Start: 1, End: 2 + i, Line: []api.P{p.Nodes[0].P, at(number(), number())}}
		switch r.Intn(4) {
		case 0:
			e.Start, e.End, e.Line = e.End, e.Start, line.Reverse(e.Line)
		case 1:
			e.Line = append(e.Line, at(number(), number()))
		case 2:
			e.End, e.Line = 1, append(e.Line, at(number(), number()), e.Line[0])
		}
		p.Edges = append(p.Edges, e)
	}
	return p
}

// Promise 14.1 (11.2): the order round a node is exact up to the grid's bounds.
func TestRoundFar(t *testing.T) {
	r := noise()
	for range 400 {
		same(t, star(r, r.Intn(20)))
	}
}

// web is a sound plan, on a field of points with some of the sides and diagonals between neighbours, and what lies at the left of each step of its lines.
type web struct {
	p         api.Plan
	triangles map[[2]api.P]int  // by step: the number of the triangle at its left, 0 of the outside
	region    []int             // by triangle: one of those with which it makes a region
	links     map[api.P][]api.P // by point: those to which lines lead
}

// lay: a web of n by n squares, each cut in two, which has each side with the chance that keep tells; with isles all sides of the square, and of some triangles within, too.
func lay(r *rand.Rand, n int64, isles bool, keep float64) *web {
	w := &web{triangles: map[[2]api.P]int{}, region: []int{0}, links: map[api.P][]api.P{}}
	for x := range n {
		for y := range n {
			a, b, c, d := at(x, y), at(x+1, y), at(x+1, y+1), at(x, y+1)
			if r.Intn(2) == 0 {
				a, b, c, d = b, c, d, a
			}
			w.triangle(a, b, c)
			w.triangle(a, c, d)
		}
	}
	colour := make([]int, len(w.region))
	for i := 1; i < len(colour) && isles; i++ {
		colour[i] = 1
		if r.Intn(8) == 0 {
			colour[i] = 2
		}
	}
	for _, step := range w.steps() {
		a, b := step[0], step[1]
		left, right := w.triangles[step], w.triangles[[2]api.P{b, a}]
		if colour[left] != colour[right] || r.Float64() < keep {
			w.links[a], w.links[b] = append(w.links[a], b), append(w.links[b], a)
		} else {
			w.unite(left, right)
		}
	}
	w.draw(r)
	return w
}

func (w *web) triangle(l ...api.P) {
	for i, a := range l {
		w.triangles[[2]api.P{a, l[(i+1)%3]}] = len(w.region)
	}
	w.region = append(w.region, len(w.region))
}

// steps: each side of a triangle once, in a fixed order.
func (w *web) steps() [][2]api.P {
	var l [][2]api.P
	for step := range w.triangles {
		if back := [2]api.P{step[1], step[0]}; w.triangles[back] == 0 || before(step[0], step[1]) < 0 {
			l = append(l, step)
		}
	}
	slices.SortFunc(l, func(a, b [2]api.P) int { return cmp.Or(before(a[0], b[0]), before(a[1], b[1])) })
	return l
}

func before(a, b api.P) int { return cmp.Or(cmp.Compare(a.X, b.X), cmp.Compare(a.Y, b.Y)) }

func (w *web) of(triangle int) int {
	for w.region[triangle] != triangle {
		triangle = w.region[triangle]
	}
	return triangle
}

func (w *web) unite(a, b int) {
	a, b = w.of(a), w.of(b)
	w.region[max(a, b)] = min(a, b)
}

// draw makes nodes where a line must end, and at some other points, and edges between them.
func (w *web) draw(r *rand.Rand) {
	points := slices.SortedFunc(func(yield func(api.P) bool) {
		for p := range w.links {
			if !yield(p) {
				return
			}
		}
	}, before)
	nodes := map[api.P]int{}
	for _, p := range points {
		if len(w.links[p]) != 2 || r.Intn(2) == 0 {
			w.node(p, nodes)
		}
	}
	gone := map[[2]api.P]bool{}
	id := 0
	run := func(a, b api.P) {
		if gone[[2]api.P{a, b}] {
			return
		}
		l := []api.P{a, b}
		for nodes[b] == 0 {
			ahead := w.links[b][0]
			if ahead == a {
				ahead = w.links[b][1]
			}
			a, b = b, ahead
			l = append(l, b)
		}
		for i := 1; i < len(l); i++ {
			gone[[2]api.P{l[i-1], l[i]}], gone[[2]api.P{l[i], l[i-1]}] = true, true
		}
		if r.Intn(2) == 0 {
			slices.Reverse(l)
		}
		id += 1 + r.Intn(3)
		w.p.Edges = append(w.p.Edges, api.Edge{ID: id, Start: nodes[l[0]], End: nodes[l[len(l)-1]], Line: l})
	}
	for _, node := range slices.Clone(w.p.Nodes) {
		for _, b := range w.links[node.P] {
			run(node.P, b)
		}
	}
	for _, p := range points { // what is left goes round without a node
		if nodes[p] == 0 && !gone[[2]api.P{p, w.links[p][0]}] {
			w.node(p, nodes)
			run(p, w.links[p][0])
		}
	}
}

func (w *web) node(p api.P, nodes map[api.P]int) {
	nodes[p] = 2*len(nodes) + 1
	w.p.Nodes = append(w.p.Nodes, api.Node{ID: nodes[p], P: p, Face: -1})
}

// parts: how many parts the edges make.
func (w *web) parts() int {
	seen := map[int]bool{}
	var visit func(node int)
	visit = func(node int) {
		if seen[node] {
			return
		}
		seen[node] = true
		for _, e := range w.p.Edges {
			if e.Start == node || e.End == node {
				visit(e.Start)
				visit(e.End)
			}
		}
	}
	parts := 0
	for _, n := range w.p.Nodes {
		if !seen[n.ID] {
			parts++
		}
		visit(n.ID)
	}
	return parts
}

// sound: have the lines no point in common but nodes (16.1)?
func sound(p api.Plan) bool {
	for i, e := range p.Edges {
		if !line.Ok(e.Line) {
			return false
		}
		for _, f := range p.Edges[:i] {
			if !line.Apart(e.Line, f.Line) {
				return false
			}
		}
		for _, n := range p.Nodes {
			if line.At(e.Line, n.P) >= 0 && n.ID != e.Start && n.ID != e.End {
				return false
			}
		}
	}
	return true
}

// left: what lies at the left of the ways of a ring, if it is one region.
func (w *web) left(t *testing.T, l []int) int {
	t.Helper()
	region := -1
	for _, way := range l {
		points := plan.Points(w.p, way)
		for i := 1; i < len(points); i++ {
			here := w.of(w.triangles[[2]api.P{points[i-1], points[i]}])
			if region >= 0 && here != region {
				t.Fatal("a ring has two regions at its left", l, w.p)
			}
			region = here
		}
	}
	return region
}

// Promise 14.2 (W3): of a sound plan each way is in just one ring, a ring has one region at its left, all round it: of each part there are as many rings as Euler tells, and the rings' areas sum up to the regions'.
func TestSoundRings(t *testing.T) {
	r := noise()
	var parts, closed, lines, holes int
	for i := range 400 {
		keep := r.Float64()
		isles := i%2 == 0
		if isles {
			keep *= 0.1
		}
		w := lay(r, 1+int64(i%7), isles, keep)
		if !sound(w.p) {
			t.Fatal("no sound plan", w.p)
		}
		if i%3 == 0 {
			same(t, w.p)
		}
		rings := plan.Rings(w.p)
		all := slices.Sorted(slices.Values(slices.Concat(rings...)))
		if ways := slices.Sorted(slices.Values(waysByWords(w.p))); !slices.Equal(all, ways) {
			t.Fatal("not each way is in just one ring", rings, w.p)
		}
		if n := w.parts(); len(rings) != 2*n-len(w.p.Nodes)+len(w.p.Edges) {
			t.Fatal("rings", rings, w.p)
		}
		area, around := map[int]int64{}, map[int]int{}
		for _, l := range rings {
			region := w.left(t, l)
			area[region] += ring.Area2(plan.RingPoints(w.p, l))
			around[region]++
		}
		size := map[int]int64{}
		for triangle := range w.region {
			if of := w.of(triangle); of != 0 {
				size[of]++
				size[0]--
			}
		}
		for region := range area {
			if area[region] != size[region] {
				t.Fatal("area", region, area, size, w.p)
			}
			if region != 0 && around[region] > 1 {
				holes++
			}
		}
		parts += max(0, w.parts()-1)
		for _, e := range w.p.Edges {
			if e.Start == e.End {
				closed++
			}
			if len(e.Line) > 3 {
				lines++
			}
		}
	}
	if parts < 100 || closed < 50 || lines < 100 || holes < 50 {
		t.Error("too few of a kind", parts, closed, lines, holes)
	}
}

// raw: a plan of that many nodes and edges in which nothing fits.
func raw(r *rand.Rand, nodes, edges int, ids []int) api.Plan {
	pick := func() int { return ids[r.Intn(len(ids))] }
	number := func() int64 {
		wild := []int64{most, -most, most + 1, 1 << 40, math.MaxInt64, math.MinInt64}
		if r.Intn(4) == 0 {
			return wild[r.Intn(len(wild))]
		}
		return r.Int63n(5) - 2
	}
	var p api.Plan
	for range nodes {
		p.Nodes = append(p.Nodes, api.Node{ID: pick(), P: at(number(), number()), Face: pick()})
	}
	for range edges {
		e := api.Edge{ID: pick(), Start: pick(), End: pick(), Left: pick(), Right: pick()}
		for range r.Intn(5) {
			e.Line = append(e.Line, at(number(), number()))
		}
		p.Edges = append(p.Edges, e)
	}
	return p
}

// ends: whatever the plan is, the calls agree with each other.
func ends(t *testing.T, p api.Plan) {
	t.Helper()
	degrees := 0
	for _, node := range nodesOf(p) {
		l := plan.Round(p, node)
		if plan.Degree(p, node) != len(l) {
			t.Fatal("Degree", node, p)
		}
		for _, way := range l {
			if plan.From(p, way) != node {
				t.Fatal("From", way, node, p)
			}
		}
		degrees += len(l)
		plan.Node(p, node)
	}
	count := map[int]int{}
	ways := 0
	for _, l := range plan.Rings(p) {
		for i, way := range l {
			count[way]++
			ways++
			if plan.Next(p, way) != l[(i+1)%len(l)] {
				t.Fatal("Next", way, l, p)
			}
		}
		if len(l) == 0 || !slices.Equal(plan.Ring(p, l[0]), l) {
			t.Fatal("Ring", l, p)
		}
		plan.RingPoints(p, l)
	}
	if ways != degrees {
		t.Fatal("ways", ways, degrees, p)
	}
	for _, way := range numbers(p) {
		_, along := plan.Edge(p, way)
		_, against := plan.Edge(p, -way)
		is := 0
		if along || against {
			is = 1
		}
		if count[way] != is || (len(plan.Ring(p, way)) > 0) != (is == 1) {
			t.Fatal("a way is in just one ring", way, count[way], p)
		}
		plan.To(p, way)
		plan.Points(p, way)
	}
	plan.RingPoints(p, numbers(p))
}

// Promise 14.3 (14.1): of plans in which nothing fits every call is answered, as far as the words go by them.
func TestRaw(t *testing.T) {
	r := noise()
	some := []int{1, 2, 3, 4, 5, 8, 9, 1000000}
	odd := append([]int{0, -1, -2, 7, math.MaxInt, math.MinInt, math.MinInt + 1}, some...)
	for range 300 {
		ends(t, raw(r, r.Intn(9), r.Intn(11), odd))
		p := raw(r, r.Intn(9), r.Intn(11), some)
		ends(t, p)
		for i := range p.Edges {
			for k, q := range p.Edges[i].Line {
				p.Edges[i].Line[k] = at(q.X%9, q.Y%9) // the words' angles know no numbers beyond the grid
			}
		}
		same(t, p)
	}
}

// Promise 14.1: an edge's ID may be below 0 or nought in a raw plan; its ways are still its ID, and less its ID.
func TestOddIDs(t *testing.T) {
	p := api.Plan{Edges: []api.Edge{edge(-3, 1, 2, 0, 0, 4, 0), edge(0, 4, 5, 7, 7, 9, 9), edge(math.MinInt, 6, 8, 1, 2)}}
	for way, want := range map[int][2]int{-3: {1, 2}, 3: {2, 1}, 0: {4, 5}, math.MinInt: {6, 8}, 6: {0, 0}} {
		if from, to := plan.From(p, way), plan.To(p, way); from != want[0] || to != want[1] {
			t.Error(way, from, to)
		}
	}
	if l := plan.Points(p, 3); !slices.Equal(l, of(4, 0, 0, 0)) {
		t.Error(l)
	}
	if rings, want := plan.Rings(p), [][]int{{math.MinInt}, {-3, 3}, {0}}; !slices.EqualFunc(rings, want, slices.Equal) {
		t.Error(rings)
	}
	ends(t, p)
}

// Promise 14.3: plans as large as they may be: all edges at one node, all of them in one ring, and nothing that fits.
func TestLarge(t *testing.T) {
	hub, path := api.Plan{}, api.Plan{}
	for i := range api.MaxNodes {
		path.Nodes = append(path.Nodes, api.Node{ID: i + 1, P: at(int64(i), 0)})
	}
	for i := range api.MaxEdges {
		hub.Edges = append(hub.Edges, edge(i+1, 1, 1, 0, 0, int64(i)+1, 7, int64(i)+2, 7, 0, 0))
		n := int64(i)
		path.Edges = append(path.Edges, edge(i+1, i+1, i+2, n, 0, n+1, 0))
	}
	for _, p := range []api.Plan{hub, path} {
		ends(t, p)
	}
	if l := plan.Rings(path); len(l) != 1 || len(l[0]) != 2*api.MaxEdges || l[0][0] != 1 || l[0][api.MaxEdges] != -api.MaxEdges {
		t.Error(l)
	}
	if l := plan.Round(hub, 1); len(l) != 2*api.MaxEdges {
		t.Error(len(l))
	}
	r := noise()
	ids := make([]int, 500)
	for i := range ids {
		ids[i] = i - 100
	}
	ends(t, raw(r, api.MaxNodes, api.MaxEdges, ids))
}

// copyOf: the same plan in memory of its own.
func copyOf(p api.Plan) api.Plan {
	p.Nodes, p.Edges = slices.Clone(p.Nodes), slices.Clone(p.Edges)
	for i := range p.Edges {
		p.Edges[i].Line = slices.Clone(p.Edges[i].Line)
	}
	return p
}

// roomy: the same plan, with lists that have room behind them, filled.
func roomy(p api.Plan) api.Plan {
	p = copyOf(p)
	p.Nodes = append(p.Nodes, api.Node{ID: 77, P: at(7, 7)})[:len(p.Nodes)]
	p.Edges = append(p.Edges, edge(77, 7, 7))[:len(p.Edges)]
	for i, e := range p.Edges {
		p.Edges[i].Line = append(e.Line, at(7, 7))[:len(e.Line)]
	}
	return p
}

// whole: the plan with the room behind its lists.
func whole(p api.Plan) api.Plan {
	p.Nodes, p.Edges = p.Nodes[:cap(p.Nodes)], slices.Clone(p.Edges[:cap(p.Edges)])
	for i, e := range p.Edges {
		p.Edges[i].Line = e.Line[:cap(e.Line)]
	}
	return p
}

// Rule 3: what is handed in is not changed, nor the room behind its lists; what is answered is new memory, its room too.
func TestMemory(t *testing.T) {
	p := roomy(farm())
	before := copyOf(whole(p))
	l := []int{-5, 8, 77}[:2]
	for _, way := range append(numbers(p), 77) {
		e, _ := plan.Edge(p, way)
		smear(e.Line)
		smear(plan.Points(p, way))
		smear(plan.Ring(p, way))
		smear(plan.Round(p, way))
		plan.From(p, way)
		plan.To(p, way)
		plan.Next(p, way)
		plan.Degree(p, way)
		plan.Node(p, way)
		smear(plan.RingPoints(p, []int{way}))
	}
	rings := plan.Rings(p)
	smear(rings[0])
	if want := plan.Rings(farm()); !slices.EqualFunc(rings[1:], want[1:], slices.Equal) {
		t.Error("two lists of one answer share memory", rings)
	}
	for _, r := range rings {
		smear(r)
	}
	smear(plan.RingPoints(p, l))
	if !reflect.DeepEqual(whole(p), before) || !slices.Equal(l[:3], []int{-5, 8, 77}) {
		t.Error("what was handed in has changed", p, l)
	}
	if !slices.EqualFunc(plan.Rings(p), plan.Rings(farm()), slices.Equal) {
		t.Error("Rings")
	}
}

// smear writes over a list, and over all of its room.
func smear[T any](l []T) {
	clear(l[:cap(l)])
}
