package edit_test

import (
	"math"
	"math/rand"
	"reflect"
	"slices"
	"testing"

	"terrier/api"
	"terrier/edit"
	"terrier/face"
	"terrier/topo"
	"terrier/valid"
)

const most = api.MaxGrid

func at(x, y int64) api.P { return api.P{X: x, Y: y} }

// of: the line through the points (n[0],n[1]), (n[2],n[3]) ..
func of(n ...int64) []api.P {
	var l []api.P
	for i := 0; i < len(n); i += 2 {
		l = append(l, at(n[i], n[i+1]))
	}
	return l
}

// noise is the same at each run, so that a failure comes again.
func noise() *rand.Rand { return rand.New(rand.NewSource(1)) }

// croft: a square of two edges with a lane across it (face 7 below it, 3 above it); below it a pond, one closed edge turning right (face 900), and from the square's corner a path; a fence outside. Alone stand node 5 below the lane, 6 above it, 9 in the pond, 77 outside.
func croft() api.Plan {
	return api.Plan{
		Nodes: []api.Node{
			{ID: 2, P: at(0, 0), Face: -1},
			{ID: 3, P: at(20, 20), Face: -1},
			{ID: 5, P: at(18, 1), Face: 7},
			{ID: 6, P: at(1, 18), Face: 3},
			{ID: 8, P: at(12, 4), Face: -1},
			{ID: 9, P: at(14, 6), Face: 900},
			{ID: 10, P: at(4, 2), Face: -1},
			{ID: 30, P: at(40, 0), Face: -1},
			{ID: 31, P: at(40, 9), Face: -1},
			{ID: 77, P: at(-5, -5), Face: 0},
		},
		Edges: []api.Edge{
			{ID: 1, Start: 2, End: 3, Line: of(0, 0, 20, 0, 20, 20), Left: 7, Right: 0},
			{ID: 4, Start: 2, End: 3, Line: of(0, 0, 0, 20, 20, 20), Left: 0, Right: 3},
			{ID: 5, Start: 3, End: 2, Line: of(20, 20, 0, 0), Left: 7, Right: 3},
			{ID: 9, Start: 8, End: 8, Line: of(12, 4, 14, 8, 16, 5, 12, 4), Left: 7, Right: 900},
			{ID: 12, Start: 10, End: 2, Line: of(4, 2, 0, 0), Left: 7, Right: 7},
			{ID: 40, Start: 31, End: 30, Line: of(40, 9, 45, 5, 40, 0)},
		},
	}
}

// copyOf: the same plan in memory of its own.
func copyOf(p api.Plan) api.Plan {
	p.Nodes, p.Edges = slices.Clone(p.Nodes), slices.Clone(p.Edges)
	for i := range p.Edges {
		p.Edges[i].Line = slices.Clone(p.Edges[i].Line)
	}
	return p
}

// alike: the same nodes and edges, one behind the other.
func alike(p, q api.Plan) bool {
	return slices.Equal(p.Nodes, q.Nodes) && slices.EqualFunc(p.Edges, q.Edges, func(a, b api.Edge) bool { return reflect.DeepEqual(a, b) })
}

// fan: that many edges from node 1 down to node 2, each at the left of the one ahead of it.
func fan(n int) api.Plan {
	p := api.Plan{Nodes: []api.Node{{ID: 1, P: at(0, 0), Face: -1}, {ID: 2, P: at(0, -9), Face: -1}}}
	for i := range n {
		p.Edges = append(p.Edges, api.Edge{ID: i + 1, Start: 1, End: 2, Line: of(0, 0, int64(i), -4, 0, -9), Left: (i + 1) % n, Right: i})
	}
	return p
}

// long: a line of n points from a to b, which is below a, up and down far beside both.
func long(a, b api.P, side int64, n int) []api.P {
	l := []api.P{a}
	for i := range int64(n - 2) {
		l = append(l, at(a.X+side*(200-i), b.Y+2-i%2))
	}
	return append(l, b)
}

// told is what Add, Rem or Change tells; n is the edge of Add, the face of Rem.
type told struct {
	p api.Plan
	n int
	e api.Errno
}

func add(p api.Plan, start, end int, l []api.P, fresh bool) told {
	out, id, e := edit.Add(p, start, end, l, fresh)
	return told{out, id, e}
}

func rem(p api.Plan, id int, fresh bool) told {
	out, f, e := edit.Rem(p, id, fresh)
	return told{out, f, e}
}

func change(p api.Plan, id int, l []api.P) told {
	out, e := edit.Change(p, id, l)
	return told{out, 0, e}
}

// refused is what is told with an error: nothing else.
func refused(e api.Errno) told { return told{e: e} }

// hold: is what is told what is wanted, and of a plan that is all right?
func hold(t *testing.T, what any, got, want told) {
	t.Helper()
	if got.e != want.e || got.n != want.n || !alike(got.p, want.p) {
		t.Errorf("%v: told %v, not %v", what, got, want)
	}
	if got.e == api.OK {
		sound(t, what, got.p)
	}
}

// sound: has the plan a face for each region, and does it count as it should?
func sound(t *testing.T, what any, p api.Plan) {
	t.Helper()
	inside, outline := valid.Area(p)
	if e := valid.Faces(p); e != api.OK || !valid.Euler(p) || inside != outline || len(topo.FaceIDs(p)) != len(face.Regions(p)) {
		t.Errorf("%v: Faces %v Euler %v Area %v %v FaceIDs %v", what, e, valid.Euler(p), inside, outline, topo.FaceIDs(p))
	}
}

// sides tells a plan's faces alone: those at the left and right of edges, then those of nodes.
type sides map[int][2]int

// with: croft with an edge more, of ID 2, and with other faces: left and right of edges, and the nodes' by less their IDs.
func with(e api.Edge, faces sides) api.Plan {
	p := faced(croft(), faces)
	e.ID = 2
	p.Edges = slices.Insert(p.Edges, 1, e)
	return p
}

func faced(p api.Plan, faces sides) api.Plan {
	for i, e := range p.Edges {
		if f, ok := faces[e.ID]; ok {
			p.Edges[i].Left, p.Edges[i].Right = f[0], f[1]
		}
	}
	for i, n := range p.Nodes {
		if f, ok := faces[-n.ID]; ok {
			p.Nodes[i].Face = f[0]
		}
	}
	return p
}

// in: Face of a node.
func in(f int) [2]int { return [2]int{f} }

// Promises 18.1, 18.4: where an edge parts no face, both its sides are the one in which it lies; its nodes stand alone no more.
func TestAddWithin(t *testing.T) {
	for _, c := range []struct {
		start, end int
		l          []api.P
		f          int
		faces      sides
	}{
		{5, 8, of(18, 1, 12, 4), 7, sides{-5: in(-1)}},             // a node alone to the pond
		{8, 5, of(12, 4, 18, 1), 7, sides{-5: in(-1)}},             // likewise, the other way
		{10, 8, of(4, 2, 12, 4), 7, sides{}},                       // the square to the pond
		{8, 3, of(12, 4, 19, 3, 20, 20), 7, sides{}},               // likewise, elsewhere
		{9, 8, of(14, 6, 12, 4), 900, sides{-9: in(-1)}},           // within the pond
		{6, 3, of(1, 18, 19, 19, 20, 20), 0, nil},                  // over the lane: see below
		{2, 6, of(0, 0, 1, 18), 3, sides{-6: in(-1)}},              // above the lane
		{6, 3, of(1, 18, 20, 20), 3, sides{-6: in(-1)}},            // likewise
		{77, 2, of(-5, -5, 0, 0), 0, sides{-77: in(-1)}},           // outside
		{30, 3, of(40, 0, 20, 20), 0, sides{}},                     // the fence to the square
		{77, 30, of(-5, -5, 50, -5, 40, 0), 0, sides{-77: in(-1)}}, // a node alone to the fence
	} {
		for _, fresh := range []bool{false, true} {
			want := refused(api.ErrCross)
			if c.faces != nil {
				want = told{with(api.Edge{Start: c.start, End: c.end, Line: c.l, Left: c.f, Right: c.f}, c.faces), 2, api.OK}
			}
			hold(t, c, add(croft(), c.start, c.end, c.l, fresh), want)
		}
	}
	two := api.Plan{Nodes: []api.Node{{ID: 3, P: at(0, 0)}, {ID: 9, P: at(most, -most)}}}
	one := api.Plan{Nodes: []api.Node{{ID: 3, P: at(0, 0), Face: -1}, {ID: 9, P: at(most, -most), Face: -1}}, Edges: []api.Edge{{ID: 1, Start: 9, End: 3, Line: of(most, -most, 0, 0)}}}
	hold(t, "the first edge", add(two, 9, 3, of(most, -most, 0, 0), true), told{one, 1, api.OK})
}

// Promises 18.1, 18.4: an edge that parts a face; which half keeps it, which one gets which unused one, and what goes along.
func TestAddParts(t *testing.T) {
	for _, c := range []struct {
		what        string
		start, end  int
		l           []api.P
		fresh       bool
		left, right int
		faces       sides
	}{
		{"both have it, turning right", 10, 2, of(4, 2, 4, 1, 0, 0), false, 1, 7, sides{1: {1, 0}, 5: {1, 3}, 9: {1, 900}, 12: {7, 1}, -5: in(1)}},
		{"likewise, fresh", 10, 2, of(4, 2, 4, 1, 0, 0), true, 1, 2, sides{1: {1, 0}, 5: {1, 3}, 9: {1, 900}, 12: {2, 1}, -5: in(1)}},
		{"both have it, turning left", 2, 10, of(0, 0, 4, 1, 4, 2), false, 1, 7, sides{12: {1, 7}}},
		{"likewise, fresh", 2, 10, of(0, 0, 4, 1, 4, 2), true, 1, 2, sides{12: {1, 2}, 1: {2, 0}, 5: {2, 3}, 9: {2, 900}, -5: in(2)}},
		{"from side to side, the pond at its left", 2, 3, of(0, 0, 11, 4, 19, 2, 20, 20), false, 1, 7, sides{5: {1, 3}, 9: {1, 900}, 12: {1, 1}}},
		{"likewise, fresh", 2, 3, of(0, 0, 11, 4, 19, 2, 20, 20), true, 1, 2, sides{5: {1, 3}, 9: {1, 900}, 12: {1, 1}, 1: {2, 0}, -5: in(2)}},
		{"from side to side, the pond at its right", 3, 2, of(20, 20, 19, 2, 11, 4, 0, 0), false, 1, 7, sides{1: {1, 0}, -5: in(1)}},
		{"likewise, fresh", 3, 2, of(20, 20, 19, 2, 11, 4, 0, 0), true, 1, 2, sides{1: {1, 0}, 5: {2, 3}, 9: {2, 900}, 12: {2, 2}, -5: in(1)}},
		{"round the pond, turning left", 8, 8, of(12, 4, 17, 3, 17, 6, 15, 9, 13, 9, 12, 4), false, 1, 7, sides{9: {1, 900}}},
		{"likewise, fresh", 8, 8, of(12, 4, 17, 3, 17, 6, 15, 9, 13, 9, 12, 4), true, 1, 2, sides{9: {1, 900}, 1: {2, 0}, 5: {2, 3}, 12: {2, 2}, -5: in(2)}},
		{"round the pond, turning right", 8, 8, of(12, 4, 13, 9, 15, 9, 17, 6, 17, 3, 12, 4), false, 7, 1, sides{9: {1, 900}}},
		{"likewise, fresh", 8, 8, of(12, 4, 13, 9, 15, 9, 17, 6, 17, 3, 12, 4), true, 1, 2, sides{9: {2, 900}, 1: {1, 0}, 5: {1, 3}, 12: {1, 1}, -5: in(1)}},
		{"within the pond", 8, 8, of(12, 4, 15, 5, 14, 7, 12, 4), false, 1, 900, sides{-9: in(1)}},
		{"likewise, fresh", 8, 8, of(12, 4, 15, 5, 14, 7, 12, 4), true, 1, 2, sides{9: {7, 2}, -9: in(1)}},
		{"within the pond, beside its node, turning right", 8, 8, of(12, 4, 14, 7, 13, 5, 12, 4), false, 1, 900, sides{9: {7, 1}, -9: in(1)}},
		{"likewise, fresh", 8, 8, of(12, 4, 14, 7, 13, 5, 12, 4), true, 1, 2, sides{9: {7, 1}, -9: in(1)}},
		{"round a node alone, turning right", 6, 6, of(1, 18, 2, 19, 3, 19, 1, 18), false, 3, 1, sides{-6: in(-1)}},
		{"likewise, fresh", 6, 6, of(1, 18, 2, 19, 3, 19, 1, 18), true, 1, 2, sides{4: {0, 1}, 5: {7, 1}, -6: in(-1)}},
		{"outside, closing the fence", 31, 30, of(40, 9, 40, 0), false, 1, 0, sides{40: {0, 1}}},
		{"likewise, fresh", 31, 30, of(40, 9, 40, 0), true, 1, 0, sides{40: {0, 1}}},
		{"the other way", 30, 31, of(40, 0, 40, 9), true, 0, 1, sides{40: {0, 1}}},
		{"round all of it, turning left", 77, 77, of(-5, -5, 99, -5, 99, 99, -5, 99, -5, -5), false, 1, 0, sides{1: {7, 1}, 4: {1, 3}, 40: {1, 1}, -77: in(-1)}},
		{"round all of it, turning right, fresh", 77, 77, of(-5, -5, -5, 99, 99, 99, 99, -5, -5, -5), true, 0, 1, sides{1: {7, 1}, 4: {1, 3}, 40: {1, 1}, -77: in(-1)}},
		{"round it, from the fence", 30, 31, of(40, 0, 40, -9, -9, -9, -9, 99, 99, 99, 99, 9, 40, 9), false, 0, 1, sides{1: {7, 1}, 4: {1, 3}, 40: {0, 1}, -77: in(1)}},
		{"round the square, at its corner", 2, 2, of(0, 0, 30, -1, 30, 30, -1, 30, 0, 0), true, 1, 0, sides{1: {7, 1}, 4: {1, 3}}},
		{"outside, beside the square", 2, 3, of(0, 0, -1, 21, 20, 20), true, 0, 1, sides{4: {1, 3}}},
		{"outside, the other way", 3, 2, of(20, 20, -1, 21, 0, 0), false, 1, 0, sides{4: {1, 3}}},
	} {
		want := with(api.Edge{Start: c.start, End: c.end, Line: c.l, Left: c.left, Right: c.right}, c.faces)
		hold(t, c.what, add(croft(), c.start, c.end, c.l, c.fresh), told{want, 2, api.OK})
	}
}

// Promise 18.1: Add's errors, each ahead of the ones behind it.
func TestAddRefused(t *testing.T) {
	type asked struct {
		start, end int
		l          []api.P
	}
	none := []asked{{1, 3, of(0, 0, 20, 20)}, {2, 4, of(0, 0, 20, 20)}, {0, 0, nil}, {-2, 3, of(0, 0, 0, 0)}, {math.MinInt, math.MaxInt, nil}, {2, 999, of(0, 0, 30, 30)}, {1, 2, of(most+1, 0, 0, 0)}, {12, 40, of(0, 1)}}
	lines := []asked{
		{2, 3, nil}, {2, 2, of(0, 0)}, {2, 2, of(0, 0, 0, 0)}, {2, 2, of(0, 0, 5, 5, 0, 0)}, {2, 30, of(0, 0, 20, -5, 20, -5, 40, 0)}, {2, 30, of(0, 0, 20, -5, 10, -5, 15, -1, 40, 0)},
		{2, 30, of(0, 0, 20, -most-1, 40, 0)}, {2, 30, of(0, 0, most+1, -9, 40, 0)}, {2, 30, of(0, 0, math.MaxInt64, math.MinInt64, 40, 0)}, {2, 77, long(at(0, 0), at(-5, -5), -1, api.MaxVerts+1)}, {6, 5, of(9, 9, 9, 9)}, {2, 30, of(7, 7, 30, 30, 7, 7)},
	}
	ends := []asked{
		{2, 3, of(20, 20, 0, 0)}, {2, 2, of(0, 0, 30, -1)}, {2, 77, of(0, 0, -5, -4)}, {2, 77, of(0, -1, -5, -5)}, {2, 3, of(0, 0, 19, 19)}, {2, 3, of(12, 4, 20, 20)}, {2, 2, of(-5, -5, -4, -5, -5, -4, -5, -5)}, {9, 9, of(0, 0, 20, 20)}, {77, 30, of(-5, -5, most, most)},
	}
	crosses := []asked{
		{2, 3, of(0, 0, 20, 20)}, {3, 2, of(20, 20, 0, 0)}, {5, 6, of(18, 1, 1, 18)}, {9, 5, of(14, 6, 18, 1)},
		{2, 3, of(0, 0, 18, 1, 20, 20)}, {2, 3, of(0, 0, 1, 18, 20, 20)}, {77, 31, of(-5, -5, 25, -5, 45, 5, 40, 9)}, {77, 30, of(-5, -5, 20, 0, 40, 0)}, {77, 30, of(-5, -5, 40, 4, 40, 0)}, {30, 31, of(40, 0, 45, 5, 40, 9)},
		{2, 77, of(0, 0, 1, 1, 0, -1, -5, -5)}, {8, 8, of(12, 4, 16, 5, 16, 4, 12, 4)}, {8, 8, of(12, 4, 14, 8, 12, 8, 12, 4)}, {2, 10, of(0, 0, 2, 1, 5, 0, 4, 2)}, {77, 77, of(-5, -5, 0, 0, -5, 0, -5, -5)},
	}
	full := fan(api.MaxEdges)
	for _, fresh := range []bool{false, true} {
		for want, l := range map[api.Errno][]asked{api.ErrNode: none, api.ErrLine: lines, api.ErrEnds: ends, api.ErrCross: crosses} {
			for _, c := range l {
				hold(t, c, add(croft(), c.start, c.end, c.l, fresh), refused(want))
			}
		}
		hold(t, "no plan", add(api.Plan{}, 1, 1, of(0, 0, 1, 0, 1, 1, 0, 0), fresh), refused(api.ErrNode))
		longest := long(at(0, 0), at(-5, -5), -1, api.MaxVerts)
		hold(t, "as long as they may be", add(croft(), 2, 77, longest, fresh), told{with(api.Edge{Start: 2, End: 77, Line: longest}, sides{-77: in(-1)}), 2, api.OK})
		hold(t, "full", add(full, 1, 2, of(0, 0, 0, -9), fresh), refused(api.ErrCross))
		hold(t, "full, and a free way", add(full, 1, 2, of(0, 0, -1, -4, 0, -9), fresh), refused(api.ErrMany))
		hold(t, "full, and no such node", add(full, 1, 999, nil, fresh), refused(api.ErrNode))
		hold(t, "full, and no line", add(full, 1, 2, nil, fresh), refused(api.ErrLine))
		hold(t, "full, and not its ends", add(full, 1, 2, of(0, -9, 0, 0), fresh), refused(api.ErrEnds))
		hold(t, "the last one", add(fan(api.MaxEdges-1), 1, 2, of(0, 0, api.MaxEdges-1, -4, 0, -9), fresh), told{full, api.MaxEdges, api.OK})
	}
}

// without: croft without the edge, with other faces.
func without(id int, faces sides) api.Plan {
	p := faced(croft(), faces)
	p.Edges = slices.DeleteFunc(p.Edges, func(e api.Edge) bool { return e.ID == id })
	return p
}

// Promises 18.2, 18.4: what was parted by an edge is one; which of the faces it has, and what goes along.
func TestRem(t *testing.T) {
	for _, c := range []struct {
		id, f int
		fresh bool
		faces sides
	}{
		{1, 0, false, sides{5: {0, 3}, 9: {0, 900}, 12: {0, 0}, -5: in(0)}},
		{1, 0, true, sides{5: {0, 3}, 9: {0, 900}, 12: {0, 0}, -5: in(0)}},
		{4, 0, false, sides{5: {7, 0}, -6: in(0)}},
		{4, 0, true, sides{5: {7, 0}, -6: in(0)}},
		{5, 3, false, sides{1: {3, 0}, 9: {3, 900}, 12: {3, 3}, -5: in(3)}},
		{5, 1, true, sides{1: {1, 0}, 4: {0, 1}, 9: {1, 900}, 12: {1, 1}, -5: in(1), -6: in(1)}},
		{9, 7, false, sides{-8: in(7), -9: in(7)}},
		{9, 1, true, sides{1: {1, 0}, 5: {1, 3}, 12: {1, 1}, -5: in(1), -8: in(1), -9: in(1)}},
		{12, 7, false, sides{-10: in(7)}},
		{12, 7, true, sides{-10: in(7)}},
		{40, 0, false, sides{-30: in(0), -31: in(0)}},
		{40, 0, true, sides{-30: in(0), -31: in(0)}},
	} {
		hold(t, c, rem(croft(), c.id, c.fresh), told{without(c.id, c.faces), c.f, api.OK})
	}
	// the unused face is the least one that is neither of the two
	low := faced(croft(), sides{1: {1, 0}, 5: {1, 2}, 4: {0, 2}, 9: {1, 4}, 12: {1, 1}, -5: in(1), -6: in(2), -9: in(4)})
	if got := rem(low, 5, true); got.n != 3 || got.p.Edges[0].Left != 3 || got.p.Edges[2].Right != 4 {
		t.Error(got)
	}
	if got := rem(low, 9, true); got.n != 3 || got.p.Edges[2].Right != 2 {
		t.Error(got)
	}
	if got := rem(low, 5, false); got.n != 1 {
		t.Error(got)
	}
}

// Promise 18.2: Rem asks for an edge.
func TestRemRefused(t *testing.T) {
	for _, id := range []int{0, -1, -40, 2, 3, 39, 41, 77, math.MaxInt, math.MinInt} {
		for _, fresh := range []bool{false, true} {
			hold(t, id, rem(croft(), id, fresh), refused(api.ErrEdge))
			hold(t, id, rem(api.Plan{}, id, fresh), refused(api.ErrEdge))
		}
	}
}

// along: croft, one edge of it along another line.
func along(id int, l []api.P) api.Plan {
	p := croft()
	for i := range p.Edges {
		if p.Edges[i].ID == id {
			p.Edges[i].Line = l
		}
	}
	return p
}

// edgeAlong is an edge, and a line for it.
type edgeAlong struct {
	id int
	l  []api.P
}

// Promises 18.3, 18.4: an edge goes elsewhere, where it sweeps over nothing and keeps its place round its nodes.
func TestChange(t *testing.T) {
	for _, c := range []edgeAlong{
		{1, of(0, 0, 20, 0, 20, 20)}, {1, of(0, 0, 30, -30, 30, 30, 20, 20)}, {1, of(0, 0, 18, -1, 20, 20)}, {1, of(0, 0, 0, -3, -3, -3, -3, -9, 30, -9, 30, 40, -3, 40, -3, 25, 20, 25, 20, 20)},
		{4, of(0, 0, 1, 19, 20, 20)}, {4, of(0, 0, -most, most, 20, 20)}, {4, of(0, 0, 0, 20, 9, 10, 20, 20)},
		{5, of(20, 20, 9, 10, 0, 0)}, {5, of(20, 20, 17, 9, 13, 9, 0, 0)}, {5, of(20, 20, 3, 19, 3, 4, 0, 0)},
		{9, of(12, 4, 14, 8, 16, 5, 15, 2, 12, 4)}, {9, of(12, 4, 13, 7, 16, 7, 12, 4)}, {9, of(12, 4, 5, 3, 5, 4, 12, 8, 17, 8, 15, 3, 12, 4)},
		{12, of(4, 2, 3, 1, 0, 0)}, {12, of(4, 2, 19, 2, 19, 1, 0, 0)}, {12, of(4, 2, 17, 10, 17, 2, 9, 1, 0, 0)},
		{40, of(40, 9, 40, 0)}, {40, of(40, 9, 99, 99, -99, 99, -99, -99, 99, -99, 40, 0)}, {40, of(40, 9, most, most, most, -most, 40, 0)}, {40, long(at(40, 9), at(40, 0), 1, api.MaxVerts)},
	} {
		want := croft()
		for i := range want.Edges {
			if want.Edges[i].ID == c.id {
				want.Edges[i].Line = c.l
			}
		}
		hold(t, c, change(croft(), c.id, c.l), told{want, 0, api.OK})
	}
}

// Promise 18.3: Change's errors, each ahead of the ones behind it.
func TestChangeRefused(t *testing.T) {
	for want, l := range map[api.Errno][]edgeAlong{
		api.ErrEdge: {{0, of(0, 0, 20, 0, 20, 20)}, {-1, of(0, 0, 20, 0, 20, 20)}, {2, nil}, {41, of(0, 0)}, {math.MinInt, nil}, {math.MaxInt, of(most+1, 0, 0, 0)}},
		api.ErrLine: {
			{1, nil}, {1, of(0, 0)}, {1, of(0, 0, 0, 0, 20, 20)}, {1, of(7, 7, 7, 7)}, {9, of(12, 4, 14, 8, 12, 4)}, {9, of(12, 4, 12, 4)}, {9, nil},
			{40, of(40, 9, 42, 5, 44, 5, 42, 9, 43, 1, 40, 0)}, {40, of(40, 9, most+1, 5, 40, 0)}, {40, of(40, 9, 50, -most-1, 40, 0)}, {40, long(at(40, 9), at(40, 0), 1, api.MaxVerts+1)},
		},
		api.ErrEnds: {
			{1, of(20, 20, 20, 0, 0, 0)}, {1, of(0, 0, 20, 0, 20, 19)}, {1, of(1, 0, 20, 0, 20, 20)}, {1, of(0, 0, 10, 15)}, {5, of(0, 0, 20, 20)},
			{9, of(12, 4, 14, 8)}, {9, of(14, 8, 16, 5, 12, 4, 14, 8)}, {9, of(14, 6, 1, 18, 2, 18, 14, 6)}, {12, of(4, 2, 12, 4)}, {12, of(0, 0, 4, 2)},
		},
		api.ErrCross: {
			{1, of(0, 0, 20, 20)}, {1, of(0, 0, 0, 20, 20, 20)}, {1, of(0, 0, 18, 1, 20, 20)}, {1, of(0, 0, 12, 4, 20, 20)}, {1, of(0, 0, 4, 1, 4, 3, 20, 20)}, {1, of(0, 0, 40, 0, 20, 20)}, {1, of(0, 0, 50, 4, 20, 20)},
			{4, of(0, 0, 2, 1, 20, 19, 21, 21, 20, 20)}, {5, of(20, 20, 1, 18, 0, 0)}, {9, of(12, 4, 4, 2, 5, 1, 12, 4)}, {9, of(12, 4, 18, 1, 18, 9, 12, 4)}, {9, of(12, 4, 12, 13, 14, 13, 12, 4)},
			{12, of(4, 2, 2, 2, 0, 0)}, {12, of(4, 2, 3, 0, 0, 0)}, {12, of(4, 2, 1, 19, 0, 0)}, {40, of(40, 9, 20, 20, 40, 0)}, {40, of(40, 9, 9, 9, 40, 0)}, {40, of(40, 9, -5, -5, 40, 0)},
		},
		api.ErrTurn: {
			{1, of(0, 0, 4, 3, 6, 0, 20, 0, 20, 20)}, // of its Start alone: over the end of the path
			{5, of(20, 20, 8, 4, 5, 1, 0, 0)},        // of its End alone: likewise
			{4, of(0, 0, 12, 9, 20, 20)},             // of both: and node 6 would be outside
		},
		api.ErrSwept: {
			{1, of(0, 0, 10, 3, 20, 20)},                             // the pond and node 5 would be outside
			{1, of(0, 0, 17, 1, 19, 3, 20, 20)},                      // node 5 alone
			{1, of(0, 0, 20, 0, 20, 3, 11, 3, 11, 9, 16, 9, 20, 20)}, // the pond alone
			{1, of(0, 0, 90, -90, 90, 90, 20, 20)},                   // the fence would be within
			{4, of(0, 0, -1, -9, -9, -9, -9, 30, 20, 20)},            // node 77 would be within
			{4, of(0, 0, 2, 19, 20, 20)},                             // node 6 would be outside
			{5, of(20, 20, 1, 19, 0, 0)},                             // node 6 would be below the lane
			{5, of(20, 20, 18, 3, 5, 3, 0, 0)},                       // the pond would be above the lane
			{9, of(12, 4, 16, 5, 14, 8, 12, 4)},                      // the pond would be turned
			{9, of(12, 4, 13, 7, 14, 7, 12, 4)},                      // node 9 would be out of it
			{9, of(12, 4, 11, 4, 11, 3, 12, 4)},                      // likewise, and it would be turned
		},
	} {
		for _, c := range l {
			hold(t, c, change(croft(), c.id, c.l), refused(want))
		}
	}
}

// Promise 18.3: rings that would hold each other, or would be turned, though their ways follow each other as they did.
func TestChangeSwept(t *testing.T) {
	lens := api.Plan{
		Nodes: []api.Node{{ID: 1, P: at(0, 0), Face: -1}, {ID: 2, P: at(10, 0), Face: -1}, {ID: 3, P: at(50, 0), Face: -1}},
		Edges: []api.Edge{
			{ID: 1, Start: 1, End: 2, Line: of(0, 0, 5, -5, 10, 0), Left: 1},
			{ID: 2, Start: 1, End: 2, Line: of(0, 0, 5, 5, 10, 0), Right: 1},
			{ID: 3, Start: 3, End: 3, Line: of(50, 0, 52, 0, 52, 2, 50, 0), Left: 2},
		},
	}
	sound(t, "the test's own plan", lens)
	for _, c := range []struct {
		id int
		l  []api.P
		e  api.Errno
	}{
		{1, of(0, 0, 5, 4, 10, 0), api.OK}, {1, of(0, 0, 5, 9, 10, 0), api.ErrSwept}, {2, of(0, 0, 5, -4, 10, 0), api.OK}, {2, of(0, 0, 5, -6, 10, 0), api.ErrSwept},
		{1, of(0, 0, 99, -5, 10, 0), api.OK}, {2, of(0, 0, 99, 9, 99, -1, 10, 0), api.ErrSwept}, {2, of(0, 0, 51, 1, 10, 0), api.ErrCross},
		{1, of(0, 0, -9, 0, -9, 90, 99, 90, 99, -1, 10, 0), api.ErrSwept}, {1, of(0, 0, -9, 0, -9, 9, 29, 9, 29, 0, 10, 0), api.ErrSwept},
		{3, of(50, 0, 90, 9, -90, 9, -90, -90, 50, 0), api.ErrSwept}, {3, of(50, 0, 49, 1, 48, 0, 50, 0), api.OK}, {3, of(50, 0, 48, 0, 49, 1, 50, 0), api.ErrSwept},
		{3, of(50, 0, 5, 4, 5, -4, 50, 0), api.ErrCross},
	} {
		want := refused(c.e)
		if c.e == api.OK {
			want.p = copyOf(lens)
			want.p.Edges[c.id-1].Line = c.l
		}
		hold(t, c, change(lens, c.id, c.l), want)
	}
}
