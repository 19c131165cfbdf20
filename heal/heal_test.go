package heal_test

import (
	"math"
	"math/rand"
	"reflect"
	"slices"
	"testing"

	"terrier/api"
	"terrier/face"
	"terrier/heal"
	"terrier/topo"
	"terrier/valid"
)

const most = api.MaxGrid

func at(x, y int64) api.P { return api.P{X: x, Y: y} }

// of: the line through the points (n[0],n[1]), (n[2],n[3]) ..
func of(n ...int64) []api.P {
	var l []api.P
	for i := 0; i < len(n); i += 2 {
		l = append(l, at(n[i], n[i+1]))
	}
	return l
}

// noise is the same at each run, so that a failure comes again.
func noise() *rand.Rand { return rand.New(rand.NewSource(1)) }

// croft: a square of two edges with a lane across it (face 7 below it, 3 above it); below it a pond, one closed edge turning right (face 900), and from the square's corner a path; a fence outside. Alone stand node 5 below the lane, 6 above it, 9 in the pond, 77 outside.
func croft() api.Plan {
	return api.Plan{
		Nodes: []api.Node{
			{ID: 2, P: at(0, 0), Face: -1},
			{ID: 3, P: at(20, 20), Face: -1},
			{ID: 5, P: at(18, 1), Face: 7},
			{ID: 6, P: at(1, 18), Face: 3},
			{ID: 8, P: at(12, 4), Face: -1},
			{ID: 9, P: at(14, 6), Face: 900},
			{ID: 10, P: at(4, 2), Face: -1},
			{ID: 30, P: at(40, 0), Face: -1},
			{ID: 31, P: at(40, 9), Face: -1},
			{ID: 77, P: at(-5, -5), Face: 0},
		},
		Edges: []api.Edge{
			{ID: 1, Start: 2, End: 3, Line: of(0, 0, 20, 0, 20, 20), Left: 7, Right: 0},
			{ID: 4, Start: 2, End: 3, Line: of(0, 0, 0, 20, 20, 20), Left: 0, Right: 3},
			{ID: 5, Start: 3, End: 2, Line: of(20, 20, 0, 0), Left: 7, Right: 3},
			{ID: 9, Start: 8, End: 8, Line: of(12, 4, 14, 8, 16, 5, 12, 4), Left: 7, Right: 900},
			{ID: 12, Start: 10, End: 2, Line: of(4, 2, 0, 0), Left: 7, Right: 7},
			{ID: 40, Start: 31, End: 30, Line: of(40, 9, 45, 5, 40, 0)},
		},
	}
}

// copyOf: the same plan in memory of its own.
func copyOf(p api.Plan) api.Plan {
	p.Nodes, p.Edges = slices.Clone(p.Nodes), slices.Clone(p.Edges)
	for i := range p.Edges {
		p.Edges[i].Line = slices.Clone(p.Edges[i].Line)
	}
	return p
}

// alike: the same nodes and edges, one behind the other.
func alike(p, q api.Plan) bool {
	return slices.Equal(p.Nodes, q.Nodes) && slices.EqualFunc(p.Edges, q.Edges, func(a, b api.Edge) bool { return reflect.DeepEqual(a, b) })
}

// changed: the plan without some of its edges and nodes, and with others, by their IDs.
func changed(p api.Plan, edgesGone, nodesGone []int, edges []api.Edge, nodes []api.Node) api.Plan {
	p = copyOf(p)
	p.Edges = append(slices.DeleteFunc(p.Edges, func(e api.Edge) bool { return slices.Contains(edgesGone, e.ID) }), edges...)
	p.Nodes = append(slices.DeleteFunc(p.Nodes, func(n api.Node) bool { return slices.Contains(nodesGone, n.ID) }), nodes...)
	slices.SortFunc(p.Edges, func(a, b api.Edge) int { return a.ID - b.ID })
	slices.SortFunc(p.Nodes, func(a, b api.Node) int { return a.ID - b.ID })
	return p
}

// told is what Split or Heal tells; n is the node of Split, the edge of Heal.
type told struct {
	p         api.Plan
	n, second int
	e         api.Errno
}

func split(p api.Plan, id int, q api.P, fresh bool) told {
	out, node, second, e := heal.Split(p, id, q, fresh)
	return told{out, node, second, e}
}

func healed(p api.Plan, a, b int, fresh bool) told {
	out, id, e := heal.Heal(p, a, b, fresh)
	return told{out, id, 0, e}
}

// refused is what is told with an error: nothing else.
func refused(e api.Errno) told { return told{e: e} }

// hold: is what is told what is wanted, and of a plan that is all right?
func hold(t *testing.T, what any, got, want told) {
	t.Helper()
	if got.e != want.e || got.n != want.n || got.second != want.second || !alike(got.p, want.p) {
		t.Errorf("%v: told %v, not %v", what, got, want)
	}
	if got.e == api.OK {
		sound(t, what, got.p)
	}
}

// sound: has the plan a face for each region, and does it count as it should?
func sound(t *testing.T, what any, p api.Plan) {
	t.Helper()
	inside, outline := valid.Area(p)
	if e := valid.Faces(p); e != api.OK || !valid.Euler(p) || inside != outline || len(topo.FaceIDs(p)) != len(face.Regions(p)) {
		t.Errorf("%v: Faces %v Euler %v Area %v %v FaceIDs %v", what, e, valid.Euler(p), inside, outline, topo.FaceIDs(p))
	}
}

// part is an edge of croft in two.
type part struct {
	id         int
	q          api.P
	start, end int
	left       int
	right      int
	upTo, from []api.P
}

// parts: croft's edges in two, at their points and between them.
func parts() []part {
	return []part{
		{1, at(20, 0), 2, 3, 7, 0, of(0, 0, 20, 0), of(20, 0, 20, 20)},
		{1, at(19, 0), 2, 3, 7, 0, of(0, 0, 19, 0), of(19, 0, 20, 0, 20, 20)},
		{1, at(20, 1), 2, 3, 7, 0, of(0, 0, 20, 0, 20, 1), of(20, 1, 20, 20)},
		{4, at(0, 1), 2, 3, 0, 3, of(0, 0, 0, 1), of(0, 1, 0, 20, 20, 20)},
		{4, at(19, 20), 2, 3, 0, 3, of(0, 0, 0, 20, 19, 20), of(19, 20, 20, 20)},
		{5, at(1, 1), 3, 2, 7, 3, of(20, 20, 1, 1), of(1, 1, 0, 0)},
		{5, at(13, 13), 3, 2, 7, 3, of(20, 20, 13, 13), of(13, 13, 0, 0)},
		{9, at(14, 8), 8, 8, 7, 900, of(12, 4, 14, 8), of(14, 8, 16, 5, 12, 4)},
		{9, at(13, 6), 8, 8, 7, 900, of(12, 4, 13, 6), of(13, 6, 14, 8, 16, 5, 12, 4)},
		{9, at(16, 5), 8, 8, 7, 900, of(12, 4, 14, 8, 16, 5), of(16, 5, 12, 4)},
		{12, at(2, 1), 10, 2, 7, 7, of(4, 2, 2, 1), of(2, 1, 0, 0)},
		{40, at(45, 5), 31, 30, 0, 0, of(40, 9, 45, 5), of(45, 5, 40, 0)},
		{40, at(41, 1), 31, 30, 0, 0, of(40, 9, 45, 5, 41, 1), of(41, 1, 40, 0)},
	}
}

// inTwo: croft with c's edge in two, of the IDs a and b.
func (c part) inTwo(a, b int) api.Plan {
	return changed(croft(), []int{c.id}, nil, []api.Edge{
		{ID: a, Start: c.start, End: 1, Line: c.upTo, Left: c.left, Right: c.right},
		{ID: b, Start: 1, End: c.end, Line: c.from, Left: c.left, Right: c.right},
	}, []api.Node{{ID: 1, P: c.q, Face: -1}})
}

// Promises 19.1, 19.3: an edge is two, with its faces, and with a node between them that stands alone no more.
func TestSplit(t *testing.T) {
	sound(t, "the test's own plan", croft())
	for _, c := range parts() {
		hold(t, c, split(croft(), c.id, c.q, false), told{c.inTwo(c.id, 2), 1, 2, api.OK})
		hold(t, c, split(croft(), c.id, c.q, true), told{c.inTwo(2, 3), 1, 3, api.OK})
	}
	corner := api.Plan{
		Nodes: []api.Node{{ID: 1, P: at(most, -most), Face: -1}, {ID: 2, P: at(most, most), Face: -1}},
		Edges: []api.Edge{{ID: 2, Start: 2, End: 1, Line: of(most, most, most, -most)}},
	}
	half := changed(corner, []int{2}, nil, []api.Edge{{ID: 1, Start: 3, End: 1, Line: of(most, 5, most, -most)}, {ID: 2, Start: 2, End: 3, Line: of(most, most, most, 5)}}, []api.Node{{ID: 3, P: at(most, 5), Face: -1}})
	hold(t, "at the grid's bound", split(corner, 2, at(most, 5), false), told{half, 3, 1, api.OK})
}

// Promise 19.1: the least unused IDs are those between others, none of them the edge's own.
func TestSplitIDs(t *testing.T) {
	// row: edges of those IDs, each between two nodes of its own; the nodes' IDs go on from 1
	row := func(ids []int) api.Plan {
		var p api.Plan
		for i, id := range ids {
			x := int64(9 * i)
			p.Nodes = append(p.Nodes, api.Node{ID: 2*i + 1, P: at(x, 0), Face: -1}, api.Node{ID: 2*i + 2, P: at(x+4, 0), Face: -1})
			p.Edges = append(p.Edges, api.Edge{ID: id, Start: 2*i + 1, End: 2*i + 2, Line: of(x, 0, x+4, 0)})
		}
		return p
	}
	for _, c := range []struct {
		ids           []int
		place         int
		second        int
		first, beyond int
	}{
		{[]int{1}, 0, 2, 2, 3}, {[]int{2}, 0, 1, 1, 3}, {[]int{7}, 0, 1, 1, 2}, {[]int{api.MaxID}, 0, 1, 1, 2},
		{[]int{1, 2, 3}, 0, 4, 4, 5}, {[]int{1, 2, 3}, 2, 4, 4, 5}, {[]int{1, 3}, 0, 2, 2, 4}, {[]int{1, 3}, 1, 2, 2, 4}, {[]int{2, 3, 5}, 0, 1, 1, 4}, {[]int{1, 2, 5, 6}, 3, 3, 3, 4}, {[]int{1, 2, 4, 5}, 2, 3, 3, 6},
	} {
		p := row(c.ids)
		n, x := len(p.Nodes)+1, int64(9*c.place)
		inTwo := func(a, b int) api.Plan {
			e := p.Edges[c.place]
			return changed(p, []int{e.ID}, nil, []api.Edge{{ID: a, Start: e.Start, End: n, Line: of(x, 0, x+1, 0)}, {ID: b, Start: n, End: e.End, Line: of(x+1, 0, x+4, 0)}}, []api.Node{{ID: n, P: at(x+1, 0), Face: -1}})
		}
		id := c.ids[c.place]
		hold(t, c, split(p, id, at(x+1, 0), false), told{inTwo(id, c.second), n, c.second, api.OK})
		hold(t, c, split(p, id, at(x+1, 0), true), told{inTwo(c.first, c.beyond), n, c.beyond, api.OK})
	}
}

// fan: that many edges from node 1 down to node 2, each at the left of the one ahead of it.
func fan(n int) api.Plan {
	p := api.Plan{Nodes: []api.Node{{ID: 1, P: at(0, 0), Face: -1}, {ID: 2, P: at(0, -9), Face: -1}}}
	for i := range n {
		p.Edges = append(p.Edges, api.Edge{ID: i + 1, Start: 1, End: 2, Line: of(0, 0, int64(i), -4, 0, -9), Left: (i + 1) % n, Right: i})
	}
	return p
}

// crowd: croft with nodes alone outside, until there are so many.
func crowd(n int) api.Plan {
	p := croft()
	for i := 0; len(p.Nodes) < n; i++ {
		p.Nodes = append(p.Nodes, api.Node{ID: 100 + i, P: at(int64(i), -most)})
	}
	return p
}

// Promise 19.1: Split's errors, each ahead of the ones behind it.
func TestSplitRefused(t *testing.T) {
	full := func(p api.Plan, want api.Errno, free int) {
		for _, fresh := range []bool{false, true} {
			hold(t, "full", split(p, 1, p.Edges[0].Line[1], fresh), refused(want))
			hold(t, "full, and no such point", split(p, 1, at(-1, -7), fresh), refused(api.ErrPoint))
			hold(t, "full, and an end", split(p, 1, p.Edges[0].Line[0], fresh), refused(api.ErrPoint))
			hold(t, "full, and no such edge", split(p, free, p.Edges[0].Line[1], fresh), refused(api.ErrEdge))
		}
	}
	full(fan(api.MaxEdges), api.ErrMany, api.MaxEdges+1)
	full(crowd(api.MaxNodes), api.ErrMany, 2)
	for _, fresh := range []bool{false, true} {
		for _, id := range []int{0, -1, -40, 2, 3, 41, 77, math.MaxInt, math.MinInt} {
			for _, q := range []api.P{at(20, 0), at(0, 0), at(99, 99), at(math.MaxInt64, math.MinInt64)} {
				hold(t, id, split(croft(), id, q, fresh), refused(api.ErrEdge))
				hold(t, id, split(api.Plan{}, id, q, fresh), refused(api.ErrEdge))
			}
		}
		for id, l := range map[int][]api.P{
			1:  of(0, 0, 20, 20, 21, 0, -1, 0, 20, 21, 20, -1, 19, 1, 10, 10, 40, 9, math.MaxInt64, 0, 20, math.MinInt64),
			4:  of(0, 0, 20, 20, 0, 21, 0, -1, 20, 0, 21, 20, 18, 1),
			5:  of(20, 20, 0, 0, 21, 21, -1, -1, 9, 10, 10, 9, math.MaxInt64, math.MaxInt64, math.MinInt64, math.MinInt64),
			9:  of(12, 4, 14, 6, 13, 5, 14, 5, 13, 7, 15, 6, 16, 6),
			12: of(0, 0, 4, 2, 6, 3, -2, -1, 1, 1, 3, 1, 3, 2, 12, 4),
			40: of(40, 9, 40, 0, 40, 4, 42, 7, 46, 4, 44, 3),
		} {
			for _, q := range l {
				hold(t, q, split(croft(), id, q, fresh), refused(api.ErrPoint))
			}
		}
		if got := split(fan(api.MaxEdges-1), 7, at(6, -4), fresh); got.e != api.OK || got.n != 3 || len(got.p.Edges) != api.MaxEdges {
			t.Error("the last edge", got.n, got.e)
		} else {
			sound(t, "the last edge", got.p)
		}
		if got := split(crowd(api.MaxNodes-1), 1, at(20, 0), fresh); got.e != api.OK || got.n != 1 || len(got.p.Nodes) != api.MaxNodes {
			t.Error("the last node", got.n, got.e)
		} else {
			sound(t, "the last node", got.p)
		}
	}
}

// bow: a field of three edges, turning left round face 5, with a node alone in it: edge 3 from node 4 to 2, edge 6 from 2 to 7, edge 8 back. Edges 3 and 6 may lie the other way.
func bow(turn3, turn6 bool) api.Plan {
	p := api.Plan{
		Nodes: []api.Node{{ID: 2, P: at(4, 0), Face: -1}, {ID: 4, P: at(0, 0), Face: -1}, {ID: 7, P: at(4, 5), Face: -1}, {ID: 9, P: at(3, 2), Face: 5}},
		Edges: []api.Edge{
			{ID: 3, Start: 4, End: 2, Line: of(0, 0, 1, -1, 4, 0), Left: 5},
			{ID: 6, Start: 2, End: 7, Line: of(4, 0, 9, 9, 7, 8, 4, 5), Left: 5},
			{ID: 8, Start: 7, End: 4, Line: of(4, 5, 0, 0), Left: 5},
		},
	}
	if turn3 {
		p.Edges[0] = api.Edge{ID: 3, Start: 2, End: 4, Line: of(4, 0, 1, -1, 0, 0), Right: 5}
	}
	if turn6 {
		p.Edges[1] = api.Edge{ID: 6, Start: 7, End: 2, Line: of(4, 5, 7, 8, 9, 9, 4, 0), Right: 5}
	}
	return p
}

// Promises 19.2, 19.3: two edges are one, along the first of them, however they lie; its faces and its ID are that one's, or the ID is an unused one.
func TestHeal(t *testing.T) {
	along := api.Edge{Start: 4, End: 7, Line: of(0, 0, 1, -1, 4, 0, 9, 9, 7, 8, 4, 5), Left: 5}
	against := api.Edge{Start: 7, End: 4, Line: of(4, 5, 7, 8, 9, 9, 4, 0, 1, -1, 0, 0), Right: 5}
	for _, turn3 := range []bool{false, true} {
		for _, turn6 := range []bool{false, true} {
			p := bow(turn3, turn6)
			sound(t, "the test's own plan", p)
			for a, turned := range map[int]bool{3: turn3, 6: turn6} {
				for id, fresh := range map[int]bool{a: false, 1: true} {
					one := along
					if turned {
						one = against
					}
					one.ID = id
					want := changed(p, []int{3, 6}, []int{2}, []api.Edge{one}, nil)
					hold(t, []any{turn3, turn6, a, fresh}, healed(p, a, 9-a, fresh), told{want, id, 0, api.OK})
				}
				if n := heal.Common(p, a, 9-a); n != 2 {
					t.Error(a, n)
				}
			}
		}
	}
}

// numbered: bow with other IDs of its edges.
func numbered(ids [3]int) api.Plan {
	p := bow(false, true)
	for i, id := range ids {
		p.Edges[i].ID = id
	}
	slices.SortFunc(p.Edges, func(a, b api.Edge) int { return a.ID - b.ID })
	return p
}

// Promise 19.2: the least unused ID is none that was there, not even one of the two that are gone.
func TestHealIDs(t *testing.T) {
	for ids, fresh := range map[[3]int]int{{1, 2, 3}: 4, {3, 1, 2}: 4, {1, 2, 9}: 3, {1, 3, 2}: 4, {2, 4, 1}: 3, {2, 3, 9}: 1, {1, 3, 5}: 2, {api.MaxID, 1, 2}: 3} {
		p := numbered(ids)
		one := api.Edge{ID: fresh, Start: 4, End: 7, Line: of(0, 0, 1, -1, 4, 0, 9, 9, 7, 8, 4, 5), Left: 5}
		want := changed(p, ids[:2], []int{2}, []api.Edge{one}, nil)
		hold(t, ids, healed(p, ids[0], ids[1], true), told{want, fresh, 0, api.OK})
		one.ID = ids[0]
		want = changed(p, ids[:2], []int{2}, []api.Edge{one}, nil)
		hold(t, ids, healed(p, ids[0], ids[1], false), told{want, ids[0], 0, api.OK})
	}
}

// lens: two edges between the nodes 1 and 2, face 4 between them; either may lie the other way.
func lens(turnLow, turnHigh bool) api.Plan {
	p := api.Plan{
		Nodes: []api.Node{{ID: 1, P: at(0, 0), Face: -1}, {ID: 2, P: at(10, 0), Face: -1}, {ID: 3, P: at(5, 1), Face: 4}},
		Edges: []api.Edge{
			{ID: 1, Start: 1, End: 2, Line: of(0, 0, 10, 0), Left: 4},
			{ID: 2, Start: 1, End: 2, Line: of(0, 0, 1, 5, 10, 0), Right: 4},
		},
	}
	if turnLow {
		p.Edges[0] = api.Edge{ID: 1, Start: 2, End: 1, Line: of(10, 0, 0, 0), Right: 4}
	}
	if turnHigh {
		p.Edges[1] = api.Edge{ID: 2, Start: 2, End: 1, Line: of(10, 0, 1, 5, 0, 0), Left: 4}
	}
	return p
}

// Promises 19.2, 19.3: of two edges that end at both nodes it is the first one's End that goes, so that the one of both closes at its Start.
func TestHealBothEnds(t *testing.T) {
	low := map[bool]api.Edge{false: {Start: 1, End: 1, Line: of(0, 0, 10, 0, 1, 5, 0, 0), Left: 4}, true: {Start: 2, End: 2, Line: of(10, 0, 0, 0, 1, 5, 10, 0), Right: 4}}
	high := map[bool]api.Edge{false: {Start: 1, End: 1, Line: of(0, 0, 1, 5, 10, 0, 0, 0), Right: 4}, true: {Start: 2, End: 2, Line: of(10, 0, 1, 5, 0, 0, 10, 0), Left: 4}}
	for _, turnLow := range []bool{false, true} {
		for _, turnHigh := range []bool{false, true} {
			p := lens(turnLow, turnHigh)
			sound(t, "the test's own plan", p)
			for a, one := range map[int]api.Edge{1: low[turnLow], 2: high[turnHigh]} {
				gone := 3 - one.Start
				for id, fresh := range map[int]bool{a: false, 3: true} {
					one.ID = id
					hold(t, []any{turnLow, turnHigh, a}, healed(p, a, 3-a, fresh), told{changed(p, []int{1, 2}, []int{gone}, []api.Edge{one}, nil), id, 0, api.OK})
				}
				if n := heal.Common(p, a, 3-a); n != gone {
					t.Error(turnLow, turnHigh, a, n)
				}
			}
		}
	}
}

// tied: lens with a path that begins at the node, or a small field there.
func tied(node int, field bool) api.Plan {
	e := api.Edge{ID: 5, Start: node, End: 9, Line: of(0, 0, -4, 0)}
	if node == 2 {
		e.Line = of(10, 0, 14, 0)
	}
	nodes := []api.Node{{ID: 9, P: e.Line[1], Face: -1}}
	if field {
		e.End, e.Left, e.Line, nodes = node, 1, append(e.Line, at(e.Line[1].X, e.Line[1].X/2-2), e.Line[0]), nil
	}
	return changed(lens(false, false), nil, nil, []api.Edge{e}, nodes)
}

// Promise 19.2: a node that a third way has is no common one: the other one may be, even if it isn't the first one's End.
func TestCommonOfTwo(t *testing.T) {
	without := map[int]api.Edge{ // by the node that is gone
		1: {ID: 1, Start: 2, End: 2, Line: of(10, 0, 1, 5, 0, 0, 10, 0), Left: 4},
		2: {ID: 1, Start: 1, End: 1, Line: of(0, 0, 10, 0, 1, 5, 0, 0), Left: 4},
	}
	for _, field := range []bool{false, true} {
		for node := 1; node <= 2; node++ {
			p, gone := tied(node, field), 3-node
			sound(t, "the test's own plan", p)
			for _, c := range [][3]int{{1, 2, gone}, {2, 1, gone}, {1, 5, 0}, {5, 1, 0}, {2, 5, 0}, {5, 2, 0}, {5, 5, 0}} {
				if n := heal.Common(p, c[0], c[1]); n != c[2] {
					t.Error(field, node, c, n)
				}
				if c[2] == 0 {
					hold(t, c, healed(p, c[0], c[1], field), refused(api.ErrHeal))
				}
			}
			want := changed(p, []int{1, 2}, []int{gone}, []api.Edge{without[gone]}, nil)
			hold(t, node, healed(p, 1, 2, false), told{want, 1, 0, api.OK})
		}
	}
}

// Promise 19.2: Heal's errors, each ahead of the ones behind it, and where there is nothing in common.
func TestHealRefused(t *testing.T) {
	type pair struct{ a, b int }
	for want, l := range map[api.Errno][]pair{
		api.ErrEdge: {{0, 0}, {1, 2}, {2, 1}, {-1, 4}, {4, -1}, {41, 41}, {1, math.MaxInt}, {math.MinInt, 1}, {9, 8}, {77, 9}, {0, 12}},
		api.ErrHeal: {
			{1, 1}, {9, 9}, {12, 12}, {40, 40}, // they are one
			{1, 40}, {40, 12}, {9, 40}, {9, 1}, {12, 9}, // they have nothing in common
			{1, 4}, {4, 1}, {1, 5}, {5, 4}, {1, 12}, {12, 5}, {4, 12}, // there are three ways, and four
		},
	} {
		for _, c := range l {
			for _, fresh := range []bool{false, true} {
				hold(t, c, healed(croft(), c.a, c.b, fresh), refused(want))
			}
			if n := heal.Common(croft(), c.a, c.b); n != 0 {
				t.Error(c, n)
			}
		}
	}
	hold(t, "no plan", healed(api.Plan{}, 1, 2, false), refused(api.ErrEdge))
	// a path to a small field, and nothing else there: the field's edge is closed
	flag := api.Plan{
		Nodes: []api.Node{{ID: 1, P: at(0, 0), Face: -1}, {ID: 2, P: at(4, 0), Face: -1}},
		Edges: []api.Edge{{ID: 1, Start: 1, End: 2, Line: of(0, 0, 4, 0)}, {ID: 2, Start: 2, End: 2, Line: of(4, 0, 8, 0, 8, 4, 4, 0), Left: 1}},
	}
	sound(t, "the test's own plan", flag)
	for _, c := range []pair{{1, 2}, {2, 1}, {2, 2}, {1, 1}} {
		hold(t, c, healed(flag, c.a, c.b, true), refused(api.ErrHeal))
	}
	loose := changed(bow(false, false), nil, []int{2}, nil, nil) // no node is where both edges end
	hold(t, "no node", healed(loose, 3, 6, false), refused(api.ErrHeal))
}

// chain: two edges of so many points, one behind the other, straight on; a third one at their common node, if that is wanted.
func chain(m, n int, third bool) api.Plan {
	p := api.Plan{Nodes: []api.Node{{ID: 1, Face: -1}, {ID: 2, P: at(int64(m-1), 0), Face: -1}, {ID: 3, P: at(int64(m+n-2), 0), Face: -1}}}
	var first, second []api.P
	for i := range int64(m) {
		first = append(first, at(i, 0))
	}
	for i := range int64(n) {
		second = append(second, at(int64(m)-1+i, 0))
	}
	slices.Reverse(second)
	p.Edges = []api.Edge{{ID: 1, Start: 1, End: 2, Line: first}, {ID: 2, Start: 3, End: 2, Line: second}}
	if third {
		p.Nodes = append(p.Nodes, api.Node{ID: 4, P: at(int64(m-1), 7), Face: -1})
		p.Edges = append(p.Edges, api.Edge{ID: 3, Start: 4, End: 2, Line: of(int64(m-1), 7, int64(m-1), 0)})
	}
	return p
}

// Promise 19.2: an edge has at most 64 points; the one that both had counts once.
func TestHealLong(t *testing.T) {
	for _, c := range []struct {
		m, n int
		e    api.Errno
	}{{2, 2, api.OK}, {32, 33, api.OK}, {33, 33, api.ErrLine}, {63, 2, api.OK}, {2, 63, api.OK}, {64, 2, api.ErrLine}, {2, 64, api.ErrLine}, {64, 64, api.ErrLine}} {
		p := chain(c.m, c.n, false)
		var l []api.P
		for i := range int64(c.m + c.n - 1) {
			l = append(l, at(i, 0))
		}
		for _, fresh := range []bool{false, true} {
			want, back := refused(c.e), refused(c.e)
			if c.e == api.OK {
				one := api.Edge{ID: 1, Start: 1, End: 3, Line: l}
				other := api.Edge{ID: 2, Start: 3, End: 1, Line: slices.Clone(l)}
				slices.Reverse(other.Line)
				if fresh {
					one.ID, other.ID = 3, 3
				}
				want = told{changed(p, []int{1, 2}, []int{2}, []api.Edge{one}, nil), one.ID, 0, api.OK}
				back = told{changed(p, []int{1, 2}, []int{2}, []api.Edge{other}, nil), other.ID, 0, api.OK}
			}
			hold(t, c, healed(p, 1, 2, fresh), want)
			hold(t, c, healed(p, 2, 1, fresh), back)
			hold(t, c, healed(chain(c.m, c.n, true), 1, 2, fresh), refused(api.ErrHeal))
			hold(t, c, healed(p, 1, 4, fresh), refused(api.ErrEdge))
		}
		if heal.Common(p, 1, 2) != 2 || heal.Common(p, 2, 1) != 2 {
			t.Error(c, "a line that would be too long has a node in common too")
		}
	}
}

// bowl: a field of n nodes and as many edges between two of them, turning left.
func bowl(n int) api.Plan {
	var p api.Plan
	for i := range n {
		here, next := int64(i), int64((i+1)%n)
		p.Nodes = append(p.Nodes, api.Node{ID: i + 1, P: at(here, here*here), Face: -1})
		p.Edges = append(p.Edges, api.Edge{ID: i + 1, Start: i + 1, End: int(next) + 1, Line: of(here, here*here, next, next*next), Left: 1})
	}
	return p
}

// Promises 19.2, 19.3: edge by edge the outline of a field is one edge, that closes; a longer one stays two.
func TestHealRound(t *testing.T) {
	for n, last := range map[int]api.Errno{3: api.OK, 4: api.OK, 30: api.OK, api.MaxVerts - 1: api.OK, api.MaxVerts: api.ErrLine} {
		p := bowl(n)
		sound(t, "the test's own plan", p)
		for id := 2; id < n; id++ {
			got := healed(p, 1, id, false)
			if got.e != api.OK || got.n != 1 || len(got.p.Nodes) != n+1-id || len(got.p.Edges) != n+1-id || len(got.p.Edges[0].Line) != id+1 {
				t.Fatal(n, id, got)
			}
			p = got.p
			sound(t, id, p)
		}
		got := healed(p, 1, n, false)
		if got.e != last {
			t.Fatal(n, got)
		}
		if last == api.OK {
			var l []api.P
			for i := range int64(n + 1) {
				l = append(l, at(i%int64(n), i%int64(n)*(i%int64(n))))
			}
			want := api.Plan{Nodes: bowl(n).Nodes[:1], Edges: []api.Edge{{ID: 1, Start: 1, End: 1, Line: l, Left: 1}}}
			hold(t, n, got, told{want, 1, 0, api.OK})
			hold(t, n, healed(got.p, 1, 1, false), refused(api.ErrHeal))
		}
	}
}

// Promise 19.3 (W8): what was split and is healed is as it was; where it was split between two points of its line, that point is one of it now.
func TestThereAndBack(t *testing.T) {
	for _, c := range parts() {
		l := slices.Concat(c.upTo, c.from[1:])
		was := func(id int) told {
			one := api.Edge{ID: id, Start: c.start, End: c.end, Line: l, Left: c.left, Right: c.right}
			return told{changed(croft(), []int{c.id}, nil, []api.Edge{one}, nil), id, 0, api.OK}
		}
		two := split(croft(), c.id, c.q, false).p
		hold(t, c, healed(two, c.id, 2, false), was(c.id))
		fresh := split(croft(), c.id, c.q, true).p
		hold(t, c, healed(fresh, 2, 3, false), was(2))
		if slices.Contains(lineOf(croft(), c.id), c.q) && !alike(was(c.id).p, croft()) {
			t.Error("the test's own words", c)
		}
		if c.start != c.end { // of a closed edge the other node would go
			hold(t, c, healed(two, 2, c.id, false), was(2))
			hold(t, c, healed(fresh, 3, 2, false), was(3))
		}
	}
}

func lineOf(p api.Plan, id int) []api.P {
	return p.Edges[slices.IndexFunc(p.Edges, func(e api.Edge) bool { return e.ID == id })].Line
}
