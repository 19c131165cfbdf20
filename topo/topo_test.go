package topo_test

import (
	"math"
	"math/rand"
	"reflect"
	"slices"
	"testing"

	"terrier/api"
	"terrier/topo"
	"terrier/valid"
)

const most = api.MaxGrid

func at(x, y int64) api.P { return api.P{X: x, Y: y} }

// of: the line through the points (n[0],n[1]), (n[2],n[3]) ..
func of(n ...int64) []api.P {
	var l []api.P
	for i := 0; i < len(n); i += 2 {
		l = append(l, at(n[i], n[i+1]))
	}
	return l
}

// noise is the same at each run, so that a failure comes again.
func noise() *rand.Rand { return rand.New(rand.NewSource(1)) }

// croft: a square of two edges with a lane across it (face 7 below it, 3 above it); below it a pond, one closed edge turning right (face 900), and from the square's corner a path; a fence outside. Alone stand node 5 below the lane, 6 above it, 9 in the pond, 77 outside.
func croft() api.Plan {
	return api.Plan{
		Nodes: []api.Node{
			{ID: 2, P: at(0, 0), Face: -1},
			{ID: 3, P: at(20, 20), Face: -1},
			{ID: 5, P: at(18, 1), Face: 7},
			{ID: 6, P: at(1, 18), Face: 3},
			{ID: 8, P: at(12, 4), Face: -1},
			{ID: 9, P: at(14, 6), Face: 900},
			{ID: 10, P: at(4, 2), Face: -1},
			{ID: 30, P: at(40, 0), Face: -1},
			{ID: 31, P: at(40, 9), Face: -1},
			{ID: 77, P: at(-5, -5), Face: 0},
		},
		Edges: []api.Edge{
			{ID: 1, Start: 2, End: 3, Line: of(0, 0, 20, 0, 20, 20), Left: 7, Right: 0},
			{ID: 4, Start: 2, End: 3, Line: of(0, 0, 0, 20, 20, 20), Left: 0, Right: 3},
			{ID: 5, Start: 3, End: 2, Line: of(20, 20, 0, 0), Left: 7, Right: 3},
			{ID: 9, Start: 8, End: 8, Line: of(12, 4, 14, 8, 16, 5, 12, 4), Left: 7, Right: 900},
			{ID: 12, Start: 10, End: 2, Line: of(4, 2, 0, 0), Left: 7, Right: 7},
			{ID: 40, Start: 31, End: 30, Line: of(40, 9, 45, 5, 40, 0)},
		},
	}
}

// stars: that many nodes alone, side by side, with IDs from 1 on.
func stars(n int) api.Plan {
	var p api.Plan
	for i := range n {
		p.Nodes = append(p.Nodes, api.Node{ID: i + 1, P: at(int64(i), 0)})
	}
	return p
}

// copyOf: the same plan in memory of its own.
func copyOf(p api.Plan) api.Plan {
	p.Nodes, p.Edges = slices.Clone(p.Nodes), slices.Clone(p.Edges)
	for i := range p.Edges {
		p.Edges[i].Line = slices.Clone(p.Edges[i].Line)
	}
	return p
}

// alike: the same nodes and edges, one behind the other.
func alike(p, q api.Plan) bool {
	return slices.Equal(p.Nodes, q.Nodes) && slices.EqualFunc(p.Edges, q.Edges, func(a, b api.Edge) bool { return reflect.DeepEqual(a, b) })
}

// change is what AddNode, MoveNode or RemNode tells; id is of AddNode alone.
type change struct {
	p  api.Plan
	id int
	e  api.Errno
}

func add(p api.Plan, q api.P) change {
	out, id, e := topo.AddNode(p, q)
	return change{out, id, e}
}

func move(p api.Plan, id int, q api.P) change {
	out, e := topo.MoveNode(p, id, q)
	return change{out, 0, e}
}

func rem(p api.Plan, id int) change {
	out, e := topo.RemNode(p, id)
	return change{out, 0, e}
}

// refused is what is told with an error: nothing else.
func refused(e api.Errno) change { return change{e: e} }

// hold: is what is told what is wanted, of a plan that stayed as it was and is still all right?
func hold(t *testing.T, what any, got, want change) {
	t.Helper()
	if got.e != want.e || got.id != want.id || !alike(got.p, want.p) {
		t.Errorf("%v: told %v, not %v", what, got, want)
	}
	if e := valid.Faces(got.p); got.e == api.OK && e != api.OK {
		t.Errorf("%v: Faces %v", what, e)
	}
}

// unusedByWords looks for one number after the other.
func unusedByWords(ids []int) int {
	n := 1
	for slices.Contains(ids, n) {
		n++
	}
	return n
}

// Promise 17.1: the least number from 1 on that is not among them.
func TestUnused(t *testing.T) {
	for _, c := range []struct {
		ids  []int
		want int
	}{
		{nil, 1}, {[]int{}, 1}, {[]int{1}, 2}, {[]int{2}, 1}, {[]int{0}, 1}, {[]int{-1}, 1},
		{[]int{1, 2, 3}, 4}, {[]int{3, 2, 1}, 4}, {[]int{1, 2, 4}, 3}, {[]int{4, 1, 2}, 3}, {[]int{1, 1, 1, 3}, 2}, {[]int{2, 2, 1, 1, 4, 4}, 3},
		{[]int{-2, -1, 0, 1}, 2}, {[]int{math.MinInt, math.MaxInt, 1}, 2}, {[]int{math.MaxInt}, 1}, {[]int{api.MaxID, 2, 1}, 3},
	} {
		ids := slices.Clone(c.ids)
		if n := topo.Unused(ids); n != c.want || !slices.Equal(ids, c.ids) {
			t.Error(c.ids, "unused", n, "not", c.want, "left", ids)
		}
	}
	r := noise()
	for range 3000 {
		ids := make([]int, r.Intn(12))
		for i := range ids {
			ids[i] = r.Intn(14) - 2
		}
		if n := topo.Unused(ids); n != unusedByWords(ids) {
			t.Error(ids, "unused", n)
		}
	}
	all := noise().Perm(api.MaxID + 1) // 0 to MaxID
	if n := topo.Unused(all); n != api.MaxID+1 {
		t.Error("of all IDs", n)
	}
}

// Promise 17.1: 0 and all faces of edges and of nodes, rising, each once; a node that an edge has tells none.
func TestFaceIDs(t *testing.T) {
	loop := func(left, right int) api.Plan {
		return api.Plan{
			Nodes: []api.Node{{ID: 4, P: at(1, 1), Face: -1}},
			Edges: []api.Edge{{ID: 2, Start: 4, End: 4, Line: of(1, 1, 4, 2, 2, 4, 1, 1), Left: left, Right: right}},
		}
	}
	turned := loop(0, 8)
	slices.Reverse(turned.Edges[0].Line)
	for i, c := range []struct {
		p    api.Plan
		want []int
	}{
		{api.Plan{}, []int{0}}, {stars(3), []int{0}}, {croft(), []int{0, 3, 7, 900}},
		{loop(1, 0), []int{0, 1}}, {loop(api.MaxID, 0), []int{0, api.MaxID}}, {turned, []int{0, 8}},
	} {
		if e := valid.Faces(c.p); e != api.OK {
			t.Error(i, "the test's own plan", e)
		}
		if l := topo.FaceIDs(c.p); !slices.Equal(l, c.want) {
			t.Error(i, l, "not", c.want)
		}
	}
	side := croft()
	side.Edges[0].Left, side.Edges[5].Right, side.Nodes[3].Face = 5, 11, 4 // told by one side, or by one node alone
	if l := topo.FaceIDs(side); !slices.Equal(l, []int{0, 3, 4, 5, 7, 11, 900}) {
		t.Error(l)
	}
}

// Promise 17.1: is there such a node, and has no edge it, neither as its start nor as its end?
func TestIsolated(t *testing.T) {
	alone := []int{5, 6, 9, 77}
	p := croft()
	for _, id := range []int{2, 3, 5, 6, 8, 9, 10, 30, 31, 77, 1, 4, 12, 40, 0, -1, -5, 78, api.MaxID, math.MaxInt, math.MinInt} {
		if got := topo.Isolated(p, id); got != slices.Contains(alone, id) {
			t.Error(id, got)
		}
	}
	if topo.Isolated(api.Plan{}, 0) || topo.Isolated(api.Plan{}, 1) || !topo.Isolated(stars(2), 2) || topo.Isolated(stars(2), 3) {
		t.Error("of nodes alone")
	}
}

// beyond: points that are not of the grid.
func beyond() []api.P {
	return []api.P{at(most+1, 0), at(-most-1, 0), at(0, most+1), at(0, -most-1), at(most+1, -most-1), at(math.MaxInt64, math.MinInt64), at(math.MinInt64, 5), at(12, math.MaxInt64)}
}

// onEdges: points on edges of croft: their midst, bends, slants, right beside an end.
func onEdges() []api.P {
	return []api.P{at(10, 0), at(20, 0), at(20, 19), at(0, 1), at(0, 20), at(10, 20), at(1, 1), at(19, 19), at(13, 6), at(14, 8), at(16, 5), at(2, 1), at(2, 2), at(44, 4), at(45, 5)}
}

// spot is a point with the face in which it lies; -1 of one that is taken.
type spot struct {
	q    api.P
	face int
}

// spots: points of croft that are free.
func spots() []spot {
	var l []spot
	for _, in := range []struct {
		face   int
		points []api.P
	}{
		{7, of(19, 1, 3, 2, 15, 8, 19, 18, 13, 7, 5, 2, 6, 3, 17, 5)},
		{3, of(1, 2, 1, 19, 18, 19, 7, 8)},
		{900, of(14, 5, 14, 7, 15, 5, 13, 5)},
		{0, of(21, 21, -1, 0, 0, -1, 20, 21, 41, 5, 43, 4, most, most, -most, most, most, -most, -most, -most)},
	} {
		for _, q := range in.points {
			l = append(l, spot{q, in.face})
		}
	}
	return l
}

// Promises 17.2, 17.3: a node in each face of a plan; the least unused ID, in its place.
func TestAddNode(t *testing.T) {
	for _, s := range spots() {
		want := croft()
		want.Nodes = slices.Insert(want.Nodes, 0, api.Node{ID: 1, P: s.q, Face: s.face})
		hold(t, s, add(croft(), s.q), change{want, 1, api.OK})
	}
	hold(t, "the empty plan", add(api.Plan{}, at(1, 1)), change{api.Plan{Nodes: []api.Node{{ID: 1, P: at(1, 1)}}}, 1, api.OK})

	p := croft()
	for i, id := range []int{1, 4, 7, 11, 12} { // the gaps are filled, one by one
		want := copyOf(p)
		n := api.Node{ID: id, P: at(1+int64(i), 10), Face: 3}
		place := []int{0, 3, 6, 10, 11}[i]
		want.Nodes = slices.Insert(want.Nodes, place, n)
		got := add(p, n.P)
		hold(t, id, got, change{want, id, api.OK})
		p = got.p
	}
	want := stars(5)
	want.Nodes = append(want.Nodes, api.Node{ID: 6, P: at(1, 2)})
	hold(t, "behind all", add(stars(5), at(1, 2)), change{want, 6, api.OK})
}

// Promise 17.2: AddNode is refused beyond the grid, at nodes, on edges, and by a plan that has as many nodes as there may be; in this order.
func TestAddNodeRefused(t *testing.T) {
	for _, q := range beyond() {
		hold(t, q, add(croft(), q), refused(api.ErrGrid))
		hold(t, q, add(stars(api.MaxNodes), q), refused(api.ErrGrid))
	}
	for _, n := range croft().Nodes {
		hold(t, n.P, add(croft(), n.P), refused(api.ErrPoint))
	}
	for _, q := range onEdges() {
		hold(t, q, add(croft(), q), refused(api.ErrPoint))
	}
	full := stars(api.MaxNodes)
	hold(t, "full", add(full, at(0, 1)), refused(api.ErrMany))
	hold(t, "full, and a node there", add(full, at(5, 0)), refused(api.ErrPoint))
	full.Nodes[0].Face, full.Nodes[1].Face = -1, -1
	full.Edges = []api.Edge{{ID: 1, Start: 1, End: 2, Line: of(0, 0, 0, 9, 1, 0)}}
	hold(t, "full, and an edge there", add(full, at(0, 9)), refused(api.ErrPoint))
	want := stars(api.MaxNodes)
	hold(t, "the last one", add(stars(api.MaxNodes-1), at(api.MaxNodes-1, 0)), change{want, api.MaxNodes, api.OK})
}

// Promises 17.2, 17.3: a node that stands alone goes anywhere within its face, also where it is.
func TestMoveNode(t *testing.T) {
	places := spots()
	for _, q := range onEdges() {
		places = append(places, spot{q, -1})
	}
	for _, n := range croft().Nodes {
		places = append(places, spot{n.P, -1})
	}
	for i, n := range croft().Nodes {
		for _, s := range places {
			var want change
			switch {
			case n.Face < 0:
				want = refused(api.ErrIso)
			case s.face < 0 && s.q != n.P:
				want = refused(api.ErrPoint)
			case s.face != n.Face && s.q != n.P:
				want = refused(api.ErrFace)
			default:
				want.p = croft()
				want.p.Nodes[i].P = s.q
			}
			hold(t, []any{n.ID, s}, move(croft(), n.ID, s.q), want)
		}
	}
	want := stars(api.MaxNodes)
	want.Nodes[7].P = at(0, -4)
	hold(t, "as many as there may be", move(stars(api.MaxNodes), 8, at(0, -4)), change{p: want})
	one := api.Plan{Nodes: []api.Node{{ID: api.MaxID, P: at(3, 3)}}}
	gone := api.Plan{Nodes: []api.Node{{ID: api.MaxID, P: at(-most, most)}}}
	hold(t, "the only one", move(one, api.MaxID, at(-most, most)), change{p: gone})
}

// Promise 17.2: MoveNode's errors, in their order.
func TestMoveNodeRefused(t *testing.T) {
	type place struct {
		q api.P
		e api.Errno // of node 6, which stands alone in face 3
	}
	l := []place{{at(1, 19), api.OK}, {at(1, 18), api.OK}}
	for _, q := range beyond() {
		l = append(l, place{q, api.ErrGrid})
	}
	for _, q := range onEdges() {
		l = append(l, place{q, api.ErrPoint})
	}
	for _, n := range croft().Nodes {
		if n.ID != 6 {
			l = append(l, place{n.P, api.ErrPoint})
		}
	}
	for _, s := range spots() {
		if s.face != 3 {
			l = append(l, place{s.q, api.ErrFace})
		}
	}
	for _, x := range l {
		for _, id := range []int{0, -6, 1, 4, 7, 78, math.MaxInt, math.MinInt} {
			hold(t, []any{x, id}, move(croft(), id, x.q), refused(api.ErrNode))
		}
		for _, id := range []int{2, 3, 8, 10, 30, 31} {
			hold(t, []any{x, id}, move(croft(), id, x.q), refused(api.ErrIso))
		}
		if x.e != api.OK {
			hold(t, x, move(croft(), 6, x.q), refused(x.e))
		}
	}
	hold(t, "none at all", move(api.Plan{}, 1, at(0, 0)), refused(api.ErrNode))
}

// Promises 17.2, 17.3: a node that stands alone goes; no other one does.
func TestRemNode(t *testing.T) {
	for i, n := range croft().Nodes {
		want := refused(api.ErrIso)
		if n.Face >= 0 {
			want = change{p: croft()}
			want.p.Nodes = slices.Delete(want.p.Nodes, i, i+1)
		}
		hold(t, n.ID, rem(croft(), n.ID), want)
	}
	for _, id := range []int{0, -5, 1, 4, 7, 12, 40, 78, math.MaxInt, math.MinInt} {
		hold(t, id, rem(croft(), id), refused(api.ErrNode))
		hold(t, id, rem(api.Plan{}, id), refused(api.ErrNode))
	}
	hold(t, "the only one", rem(stars(1), 1), change{})
}

// Promises 17.2, 17.3: a plan as large as they may be is answered too.
func TestLargest(t *testing.T) {
	p := api.Plan{Nodes: []api.Node{{ID: 1, P: at(0, 0), Face: -1}, {ID: 2, P: at(700000, 0), Face: -1}}}
	for i := range api.MaxEdges { // one above the other, up and down; what is below an edge is at its right
		l := of(0, 0)
		for k := range int64(api.MaxVerts - 2) {
			l = append(l, at(10+10000*k, k%2*100000+int64(4*i)+1))
		}
		p.Edges = append(p.Edges, api.Edge{ID: i + 1, Start: 1, End: 2, Line: append(l, at(700000, 0)), Left: i + 1, Right: i})
	}
	p.Edges[api.MaxEdges-1].Left = 0
	bend := func(edge int) api.P { return at(300010, int64(4*edge)-1) } // right above one of it
	for i := range api.MaxNodes - 2 {
		p.Nodes = append(p.Nodes, api.Node{ID: i + 3, P: bend(i + 1), Face: i + 1})
	}
	hold(t, "full", add(p, at(300010, -1)), refused(api.ErrMany))
	for _, id := range []int{3, 90, api.MaxNodes} {
		edge := id - 2
		gone := rem(p, id)
		if gone.e != api.OK {
			t.Fatal(gone.e)
		}
		if got := add(gone.p, bend(edge)); got.e != api.OK || got.id != id || !alike(got.p, p) {
			t.Error(id, "came again otherwise", got.id, got.e)
		}
		before := bend(edge)
		before.X -= 20000 // likewise
		if e := move(p, id, before).e; e != api.OK {
			t.Error(id, e)
		}
		above := before
		above.Y += 4
		if e := move(p, id, above).e; e != api.ErrFace {
			t.Error(id, e)
		}
	}
	if e := valid.Faces(p); e != api.OK {
		t.Error(e)
	}
	if l := topo.FaceIDs(p); len(l) != api.MaxEdges || l[api.MaxEdges-1] != api.MaxEdges-1 {
		t.Error(l)
	}
}

// roomy: the same plan, with lists that have room behind them, filled.
func roomy(p api.Plan) api.Plan {
	p = copyOf(p)
	p.Nodes = append(p.Nodes, api.Node{ID: 77})[:len(p.Nodes)]
	p.Edges = append(p.Edges, api.Edge{ID: 77})[:len(p.Edges)]
	for i, e := range p.Edges {
		p.Edges[i].Line = append(e.Line, at(7, 7))[:len(e.Line)]
	}
	return p
}

// whole: the plan with the room behind its lists.
func whole(p api.Plan) api.Plan {
	p.Nodes, p.Edges = p.Nodes[:cap(p.Nodes)], slices.Clone(p.Edges[:cap(p.Edges)])
	for i, e := range p.Edges {
		p.Edges[i].Line = e.Line[:cap(e.Line)]
	}
	return p
}

// smear writes over all lists of a plan, and over all of their room.
func smear(p api.Plan) {
	for _, e := range p.Edges[:cap(p.Edges)] {
		clear(e.Line[:cap(e.Line)])
	}
	clear(p.Nodes[:cap(p.Nodes)])
	clear(p.Edges[:cap(p.Edges)])
}

// Rule 3, promise 17.3: what is handed in stays as it is, and the room behind its lists; what is answered is new memory, its room too.
func TestMemory(t *testing.T) {
	p := roomy(croft())
	before := copyOf(whole(p))
	for _, q := range slices.Concat(beyond(), onEdges(), of(1, 2, 14, 5, 21, 21, 0, 0)) {
		smear(add(p, q).p)
		for _, id := range []int{2, 5, 6, 9, 77, 78} {
			smear(move(p, id, q).p)
		}
	}
	for _, id := range []int{2, 5, 6, 9, 77, 78} {
		smear(rem(p, id).p)
		topo.Isolated(p, id)
	}
	l := topo.FaceIDs(p)
	clear(l[:cap(l)])
	ids := []int{3, 1, 2, 9}
	topo.Unused(ids[:3])
	if !slices.Equal(ids, []int{3, 1, 2, 9}) {
		t.Error("Unused", ids)
	}
	if !reflect.DeepEqual(whole(p), before) {
		t.Error("what was handed in has changed")
	}
	for _, got := range []change{add(p, at(1, 2)), move(p, 6, at(1, 2)), rem(p, 6)} { // a line of an answer stands by itself
		for i, e := range got.p.Edges {
			clear(e.Line[:cap(e.Line)])
			for k, f := range got.p.Edges {
				if k > i && !slices.Equal(f.Line, p.Edges[k].Line) {
					t.Error("two lists of one answer share memory", i, k)
				}
			}
		}
	}
}
