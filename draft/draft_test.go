package draft_test

import (
	"math"
	"reflect"
	"slices"
	"testing"

	"terrier/api"
	"terrier/draft"
	"terrier/face"
)

// lane: two nodes, and two edges between them.
func lane() api.Plan {
	return api.Plan{
		Nodes: []api.Node{{ID: 2, P: api.P{X: 1}, Face: -1}, {ID: 5, P: api.P{X: 4}, Face: -1}},
		Edges: []api.Edge{
			{ID: 3, Start: 2, End: 5, Line: []api.P{{X: 1}, {X: 4}}, Left: 0, Right: 7},
			{ID: 4, Start: 2, End: 5, Line: []api.P{{X: 1}, {X: 2, Y: -3}, {X: 4}}, Left: 7, Right: 0},
		},
	}
}

// A draft is the same plan, and shares no memory with it.
func TestOf(t *testing.T) {
	p := lane()
	own := draft.Of(p)
	if !reflect.DeepEqual(own, lane()) {
		t.Error(own)
	}
	clear(own.Edges[0].Line)
	clear(own.Nodes)
	clear(own.Edges)
	if !reflect.DeepEqual(p, lane()) {
		t.Error("the plan has changed with its draft", p)
	}
	if none := draft.Of(api.Plan{}); len(none.Nodes)+len(none.Edges) != 0 {
		t.Error(none)
	}
}

// What is put in stands by its ID; behind that of the same one.
func TestWith(t *testing.T) {
	for _, c := range []struct {
		id           int
		nodes, edges []int
	}{
		{1, []int{1, 2, 5}, []int{1, 3, 4}}, {3, []int{2, 3, 5}, []int{3, 3, 4}}, {9, []int{2, 5, 9}, []int{3, 4, 9}}, {math.MinInt, []int{math.MinInt, 2, 5}, []int{math.MinInt, 3, 4}},
	} {
		p := draft.WithNode(draft.Of(lane()), api.Node{ID: c.id, Face: 8})
		if !slices.Equal(draft.NodeIDs(p), c.nodes) || p.Nodes[slices.Index(c.nodes, c.id)].Face != 8 {
			t.Error(c, p.Nodes)
		}
		p = draft.WithEdge(draft.Of(lane()), api.Edge{ID: c.id, Left: 8})
		last := len(c.edges) - 1
		for c.edges[last] != c.id {
			last--
		}
		if !slices.Equal(draft.EdgeIDs(p), c.edges) || p.Edges[last].Left != 8 {
			t.Error(c, p.Edges)
		}
	}
}

// Of several of one ID the first is taken out; where there is none, nothing is.
func TestWithout(t *testing.T) {
	p := draft.WithoutNode(draft.WithoutEdge(draft.Of(lane()), 3), 5)
	if !slices.Equal(draft.NodeIDs(p), []int{2}) || !slices.Equal(draft.EdgeIDs(p), []int{4}) {
		t.Error(p)
	}
	p = draft.WithoutNode(draft.WithoutEdge(draft.Of(lane()), 2), 3)
	if !reflect.DeepEqual(p, lane()) {
		t.Error(p)
	}
	twice := lane()
	twice.Edges[1].ID, twice.Nodes[1].ID = 3, 2
	p = draft.WithoutNode(draft.WithoutEdge(draft.Of(twice), 3), 2)
	if len(p.Edges) != 1 || p.Edges[0].Left != 7 || len(p.Nodes) != 1 || p.Nodes[0].P.X != 4 {
		t.Error(p)
	}
}

// The face at the left of a way is Left along its edge, Right against it.
func TestLeft(t *testing.T) {
	for way, want := range map[int]int{3: 0, -3: 7, 4: 7, -4: 0, 0: 0, 2: 0, -2: 0, math.MinInt: 0, math.MaxInt: 0} {
		if f := draft.Left(lane(), way); f != want {
			t.Error(way, f)
		}
	}
}

// A region has the face that its outer ring tells; the first one, without such a ring, 0.
func TestFaceOf(t *testing.T) {
	for _, c := range []struct {
		r    face.Region
		want int
	}{
		{face.Region{Outer: []int{4, -3}}, 7}, {face.Region{Outer: []int{-3, 4}, Inner: [][]int{{3}}}, 7}, {face.Region{Inner: [][]int{{-3}}, Nodes: []int{2}}, 0}, {face.Region{}, 0}, {face.Region{Outer: []int{99}}, 0},
	} {
		if f := draft.FaceOf(lane(), c.r); f != c.want {
			t.Error(c, f)
		}
	}
}

// A point lies in a face, if no node and no edge is there.
func TestFaceAt(t *testing.T) {
	for q, want := range map[api.P]int{{X: 2, Y: -1}: 7, {X: 3, Y: -1}: 7, {X: 9, Y: 9}: 0, {X: 2, Y: 1}: 0, {X: 1, Y: -2}: 0, {X: 1}: -1, {X: 3}: -1, {X: 2, Y: -3}: -1} {
		f, free := draft.FaceAt(lane(), q)
		if free != (want >= 0) || f != max(want, 0) {
			t.Error(q, f, free)
		}
	}
	if f, free := draft.FaceAt(api.Plan{}, api.P{X: 5}); f != 0 || !free {
		t.Error(f, free)
	}
}
