package find_test

import (
	"math"
	"math/rand"
	"slices"
	"testing"

	"terrier/api"
	"terrier/find"
	"terrier/valid"
)

const most = api.MaxGrid

func at(x, y int64) api.P { return api.P{X: x, Y: y} }

// of: the line through the points (n[0],n[1]), (n[2],n[3]) ..
func of(n ...int64) []api.P {
	var l []api.P
	for i := 0; i < len(n); i += 2 {
		l = append(l, at(n[i], n[i+1]))
	}
	return l
}

// noise is the same at each run, so that a failure comes again.
func noise() *rand.Rand { return rand.New(rand.NewSource(1)) }

// croft: a square of two edges with a lane across it (face 7 below it, 3 above it); below it a pond, one closed edge turning right (face 900), and from the square's corner a path; a fence outside. Alone stand node 5 below the lane, 6 above it, 9 in the pond, 77 outside.
func croft() api.Plan {
	return api.Plan{
		Nodes: []api.Node{
			{ID: 2, P: at(0, 0), Face: -1},
			{ID: 3, P: at(20, 20), Face: -1},
			{ID: 5, P: at(18, 1), Face: 7},
			{ID: 6, P: at(1, 18), Face: 3},
			{ID: 8, P: at(12, 4), Face: -1},
			{ID: 9, P: at(14, 6), Face: 900},
			{ID: 10, P: at(4, 2), Face: -1},
			{ID: 30, P: at(40, 0), Face: -1},
			{ID: 31, P: at(40, 9), Face: -1},
			{ID: 77, P: at(-5, -5), Face: 0},
		},
		Edges: []api.Edge{
			{ID: 1, Start: 2, End: 3, Line: of(0, 0, 20, 0, 20, 20), Left: 7, Right: 0},
			{ID: 4, Start: 2, End: 3, Line: of(0, 0, 0, 20, 20, 20), Left: 0, Right: 3},
			{ID: 5, Start: 3, End: 2, Line: of(20, 20, 0, 0), Left: 7, Right: 3},
			{ID: 9, Start: 8, End: 8, Line: of(12, 4, 14, 8, 16, 5, 12, 4), Left: 7, Right: 900},
			{ID: 12, Start: 10, End: 2, Line: of(4, 2, 0, 0), Left: 7, Right: 7},
			{ID: 40, Start: 31, End: 30, Line: of(40, 9, 45, 5, 40, 0)},
		},
	}
}

// nests: squares around each other from the bounds of the grid on, each one closed edge: of ID i+1 at node i+1, with face i+1 in it.
func nests(n int) api.Plan {
	var p api.Plan
	for i := range n {
		r := int64(most >> i)
		p.Nodes = append(p.Nodes, api.Node{ID: i + 1, P: at(-r, -r), Face: -1})
		p.Edges = append(p.Edges, api.Edge{ID: i + 1, Start: i + 1, End: i + 1, Line: of(-r, -r, r, -r, r, r, -r, r, -r, -r), Left: i + 1, Right: i})
	}
	return p
}

// what is at a point: a node, an edge, or a face; -1 is none.
type what struct{ node, edge, face int }

// look: what find tells of q. That a face is 0 where there is none is asked too.
func look(t *testing.T, p api.Plan, q api.P) what {
	t.Helper()
	f, ok := find.FaceAt(p, q)
	if !ok {
		if f != 0 {
			t.Error("a face beside a false", q, f)
		}
		f = -1
	}
	return what{find.NodeAt(p, q), find.EdgeAt(p, q), f}
}

// Promise 20.1: at each point is its node, its edge or its face.
func TestAt(t *testing.T) {
	if e := valid.Faces(croft()); e != api.OK {
		t.Fatal("the test's own plan", e)
	}
	for q, want := range map[api.P]what{
		at(0, 0): {2, 0, -1}, at(20, 20): {3, 0, -1}, at(12, 4): {8, 0, -1}, at(4, 2): {10, 0, -1}, at(40, 0): {30, 0, -1}, at(40, 9): {31, 0, -1},
		at(18, 1): {5, 0, -1}, at(1, 18): {6, 0, -1}, at(14, 6): {9, 0, -1}, at(-5, -5): {77, 0, -1},

		at(1, 0): {0, 1, -1}, at(20, 0): {0, 1, -1}, at(20, 19): {0, 1, -1}, at(0, 1): {0, 4, -1}, at(0, 20): {0, 4, -1}, at(19, 20): {0, 4, -1}, at(1, 1): {0, 5, -1}, at(13, 13): {0, 5, -1},
		at(14, 8): {0, 9, -1}, at(13, 6): {0, 9, -1}, at(16, 5): {0, 9, -1}, at(2, 1): {0, 12, -1}, at(45, 5): {0, 40, -1}, at(44, 4): {0, 40, -1},

		at(2, 0): {0, 1, -1}, at(3, 1): {0, 0, 7}, at(5, 2): {0, 0, 7}, at(12, 3): {0, 0, 7}, at(12, 5): {0, 0, 7}, at(17, 5): {0, 0, 7}, at(19, 18): {0, 0, 7}, at(14, 9): {0, 0, 7},
		at(1, 2): {0, 0, 3}, at(18, 19): {0, 0, 3}, at(1, 19): {0, 0, 3}, at(13, 5): {0, 0, 900}, at(14, 7): {0, 0, 900}, at(15, 5): {0, 0, 900}, at(15, 6): {0, 0, 900},
		at(-1, 0): {0, 0, 0}, at(21, 20): {0, 0, 0}, at(10, -1): {0, 0, 0}, at(20, 21): {0, 0, 0}, at(41, 5): {0, 0, 0}, at(46, 5): {0, 0, 0}, at(-1, -1): {0, 0, 0}, at(21, 21): {0, 0, 0},

		at(most, most): {0, 0, 0}, at(-most, -most): {0, 0, 0}, at(most+1, 0): {0, 0, -1}, at(-most-1, 0): {0, 0, -1}, at(0, most+1): {0, 0, -1}, at(0, -most-1): {0, 0, -1}, at(math.MaxInt64, math.MinInt64): {0, 0, -1}, at(math.MinInt64, 5): {0, 0, -1},
	} {
		if got := look(t, croft(), q); got != want {
			t.Error(q, got, want)
		}
	}
}

// Promise 20.1: where there is no plan, there is the outside, up to the grid's bounds.
func TestAtOfNone(t *testing.T) {
	for q, want := range map[api.P]int{at(0, 0): 0, at(5, -7): 0, at(most, -most): 0, at(most, -most-1): -1, at(most+1, -most): -1} {
		if got := look(t, api.Plan{}, q); got != (what{0, 0, want}) {
			t.Error(q, got)
		}
	}
	lone := api.Plan{Nodes: []api.Node{{ID: 4, P: at(most, 2)}}}
	for q, want := range map[api.P]what{at(most, 2): {4, 0, -1}, at(most, 1): {0, 0, 0}, at(most+1, 2): {0, 0, -1}} {
		if got := look(t, lone, q); got != want {
			t.Error(q, got)
		}
	}
}

// Promise 20.1: within the grid's own bounds, and of many faces in each other the least that is around.
func TestAtOfNests(t *testing.T) {
	const n = 12
	p := nests(n)
	if e := valid.Faces(p); e != api.OK {
		t.Fatal("the test's own plan", e)
	}
	for i := range n {
		r := int64(most >> i)
		for q, want := range map[api.P]what{
			at(-r, -r): {i + 1, 0, -1}, at(r, r): {0, i + 1, -1}, at(r, -r): {0, i + 1, -1}, at(3, r): {0, i + 1, -1}, at(-r, 5): {0, i + 1, -1}, at(r, 1-r): {0, i + 1, -1},
			at(r-1, r-1): {0, 0, i + 1}, at(1-r, 1-r): {0, 0, i + 1}, at(0, 1-r): {0, 0, i + 1}, at(1-r, 7): {0, 0, i + 1}, at(r/2+1, 0): {0, 0, i + 1},
		} {
			if got := look(t, p, q); got != want {
				t.Error(i, q, got, want)
			}
		}
	}
	// beyond the bound is no edge, though the nearest point of the grid is on one
	for _, q := range []api.P{at(most+1, 0), at(0, most+1), at(-most-1, 9), at(math.MaxInt64, math.MaxInt64), at(math.MinInt64, math.MinInt64)} {
		if got := look(t, p, q); got != (what{0, 0, -1}) {
			t.Error(q, got)
		}
	}
}

// Promise 20.1: the ways round a node, and the rings round a face, the outer one first.
func TestRoundAndRings(t *testing.T) {
	for node, want := range map[int][]int{2: {1, -12, -5, 4}, 3: {-4, 5, -1}, 8: {-9, 9}, 10: {12}, 30: {-40}, 31: {40}, 5: nil, 77: nil, 99: nil, 0: nil, -2: nil, math.MinInt: nil} {
		if got := find.NodeEdges(croft(), node); !slices.Equal(got, want) {
			t.Error(node, got)
		}
	}
	for f, want := range map[int][][]int{
		0: {{-1, 4}, {40, -40}}, 7: {{1, 5, -12, 12}, {9}}, 3: {{-4, -5}}, 900: {{-9}},
		1: nil, 2: nil, -1: nil, -7: nil, 901: nil, math.MaxInt: nil, math.MinInt: nil,
	} {
		if got := find.FaceRings(croft(), f); !slices.EqualFunc(got, want, slices.Equal) {
			t.Error(f, got)
		}
	}
	for _, p := range []api.Plan{{}, {Nodes: []api.Node{{ID: 1}}}} {
		if got := find.FaceRings(p, 0); len(got) != 0 {
			t.Error(got)
		}
		if got := find.NodeEdges(p, 1); len(got) != 0 {
			t.Error(got)
		}
	}
}

// Promise 20.1: of a face with several holes all are told, as plan.Rings has them, though it is not the first that has any.
func TestRingsOfHoles(t *testing.T) {
	hole := func(id, node int, x int64, f int) api.Edge {
		return api.Edge{ID: id, Start: node, End: node, Line: of(x, 2, x+2, 2, x, 4, x, 2), Left: f, Right: 6}
	}
	p := api.Plan{
		Nodes: []api.Node{{ID: 1, P: at(0, 0), Face: -1}, {ID: 2, P: at(11, 2), Face: -1}, {ID: 3, P: at(6, 2), Face: -1}, {ID: 4, P: at(1, 2), Face: -1}, {ID: 5, P: at(1, 9), Face: 6}},
		Edges: []api.Edge{hole(1, 2, 11, 2), hole(2, 3, 6, 8), {ID: 5, Start: 1, End: 1, Line: of(0, 0, 0, 20, 20, 20, 20, 0, 0, 0), Left: 0, Right: 6}, hole(7, 4, 1, 1)},
	}
	if e := valid.Faces(p); e != api.OK {
		t.Fatal("the test's own plan", e)
	}
	for f, want := range map[int][][]int{0: {{5}}, 1: {{7}}, 2: {{1}}, 8: {{2}}, 6: {{-5}, {-1}, {-2}, {-7}}, 5: nil} {
		if got := find.FaceRings(p, f); !slices.EqualFunc(got, want, slices.Equal) {
			t.Error(f, got)
		}
	}
}
