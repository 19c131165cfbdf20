package valid_test

import (
	"math"
	"math/rand"
	"reflect"
	"slices"
	"testing"

	"terrier/api"
	"terrier/valid"
)

const most = api.MaxGrid

func at(x, y int64) api.P { return api.P{X: x, Y: y} }

// of: the line through the points (n[0],n[1]), (n[2],n[3]) ..
func of(n ...int64) []api.P {
	var l []api.P
	for i := 0; i < len(n); i += 2 {
		l = append(l, at(n[i], n[i+1]))
	}
	return l
}

// noise is the same at each run, so that a failure comes again.
func noise() *rand.Rand { return rand.New(rand.NewSource(1)) }

// square: four edges turning left, face 1 within.
func square() api.Plan {
	return api.Plan{
		Nodes: []api.Node{{ID: 1, P: at(0, 0), Face: -1}, {ID: 2, P: at(4, 0), Face: -1}, {ID: 3, P: at(4, 4), Face: -1}, {ID: 4, P: at(0, 4), Face: -1}},
		Edges: []api.Edge{
			{ID: 1, Start: 1, End: 2, Line: of(0, 0, 4, 0), Left: 1},
			{ID: 2, Start: 2, End: 3, Line: of(4, 0, 4, 4), Left: 1},
			{ID: 3, Start: 3, End: 4, Line: of(4, 4, 0, 4), Left: 1},
			{ID: 4, Start: 4, End: 1, Line: of(0, 4, 0, 0), Left: 1},
		},
	}
}

// The places of croft's nodes and edges in their lists.
const (
	southWest = iota
	northEast
	inLower
	inUpper
	pondNode
	inPond
	pathEnd
	fenceStart
	fenceEnd
	outside
)
const (
	south = iota
	north
	lane
	pond
	path
	fence
)

// croft: a square of two edges with a lane across it (face 7 below it, 3 above it); below it a pond, one closed edge turning right (face 900), and from the square's corner a path; a fence outside, and in each face a node alone.
func croft() api.Plan {
	return api.Plan{
		Nodes: []api.Node{
			{ID: 2, P: at(0, 0), Face: -1},
			{ID: 3, P: at(20, 20), Face: -1},
			{ID: 5, P: at(18, 1), Face: 7},
			{ID: 6, P: at(1, 18), Face: 3},
			{ID: 8, P: at(12, 4), Face: -1},
			{ID: 9, P: at(14, 6), Face: 900},
			{ID: 10, P: at(4, 2), Face: -1},
			{ID: 30, P: at(40, 0), Face: -1},
			{ID: 31, P: at(40, 9), Face: -1},
			{ID: 77, P: at(-5, -5), Face: 0},
		},
		Edges: []api.Edge{
			{ID: 1, Start: 2, End: 3, Line: of(0, 0, 20, 0, 20, 20), Left: 7, Right: 0},
			{ID: 4, Start: 2, End: 3, Line: of(0, 0, 0, 20, 20, 20), Left: 0, Right: 3},
			{ID: 5, Start: 3, End: 2, Line: of(20, 20, 0, 0), Left: 7, Right: 3},
			{ID: 9, Start: 8, End: 8, Line: of(12, 4, 14, 8, 16, 5, 12, 4), Left: 7, Right: 900},
			{ID: 12, Start: 10, End: 2, Line: of(4, 2, 0, 0), Left: 7, Right: 7},
			{ID: 40, Start: 31, End: 30, Line: of(40, 9, 45, 5, 40, 0)},
		},
	}
}

// hold: are Shape and Faces as told?
func hold(t *testing.T, what any, p api.Plan, shape, faces api.Errno) {
	t.Helper()
	if s, f := valid.Shape(p), valid.Faces(p); s != shape || f != faces {
		t.Errorf("%v: Shape %v, Faces %v, not %v, %v", what, s, f, shape, faces)
	}
}

// Promises 16.1 to 16.4: plans that are all right.
func TestRight(t *testing.T) {
	alone := api.Plan{Nodes: []api.Node{{ID: 1}, {ID: api.MaxID, P: at(most, -most)}}}
	loop := api.Plan{
		Nodes: []api.Node{{ID: 4, P: at(1, 1), Face: -1}},
		Edges: []api.Edge{{ID: api.MaxID, Start: 4, End: 4, Line: of(1, 1, 4, 2, 2, 4, 1, 1), Left: api.MaxID}},
	}
	twins := api.Plan{ // two edges that turn back on the same nodes, and two closed ones at one of them
		Nodes: []api.Node{{ID: 1, P: at(0, 0), Face: -1}, {ID: 2, P: at(4, 0), Face: -1}},
		Edges: []api.Edge{
			{ID: 1, Start: 1, End: 2, Line: of(0, 0, 2, -1, 4, 0), Left: 5},
			{ID: 2, Start: 1, End: 2, Line: of(0, 0, 2, 1, 4, 0), Right: 5},
			{ID: 3, Start: 2, End: 2, Line: of(4, 0, 6, 0, 6, 1, 4, 0), Left: 2},
			{ID: 4, Start: 2, End: 2, Line: of(4, 0, 4, 2, 5, 2, 4, 0), Right: 1},
		},
	}
	for i, c := range []struct {
		p    api.Plan
		area int64
	}{
		{api.Plan{}, 0}, {api.Plan{Nodes: []api.Node{}, Edges: []api.Edge{}}, 0}, {alone, 0}, {square(), 32}, {croft(), 800}, {loop, 8}, {twins, 8 + 2 + 2},
	} {
		hold(t, i, c.p, api.OK, api.OK)
		if a, b := valid.Area(c.p); !valid.Euler(c.p) || a != c.area || b != c.area {
			t.Error(i, "Euler", valid.Euler(c.p), "Area", a, b)
		}
	}
}

// fault is something done to croft.
type fault struct {
	what string
	do   func(p *api.Plan)
}

// forms: what makes croft ErrForm.
func forms() []fault {
	l := []fault{
		{"node IDs alike", func(p *api.Plan) { p.Nodes[inPond].ID = p.Nodes[pondNode].ID }},
		{"node IDs falling", func(p *api.Plan) { p.Nodes[inPond].ID = 7 }},
		{"node IDs falling at the end", func(p *api.Plan) { p.Nodes[outside].ID = 31 }},
		{"node ID 0", func(p *api.Plan) { p.Nodes[southWest].ID = 0 }},
		{"node ID below 0", func(p *api.Plan) { p.Nodes[southWest].ID = -1 }},
		{"the least node ID", func(p *api.Plan) { p.Nodes[southWest].ID = math.MinInt }},
		{"node ID above MaxID", func(p *api.Plan) { p.Nodes[outside].ID = api.MaxID + 1 }},
		{"the greatest node ID", func(p *api.Plan) { p.Nodes[outside].ID = math.MaxInt }},
		{"nodes swapped", func(p *api.Plan) { p.Nodes[0], p.Nodes[1] = p.Nodes[1], p.Nodes[0] }},
		{"edge IDs alike", func(p *api.Plan) { p.Edges[pond].ID = p.Edges[lane].ID }},
		{"edge IDs falling", func(p *api.Plan) { p.Edges[pond].ID = 3 }},
		{"edge IDs falling at the end", func(p *api.Plan) { p.Edges[fence].ID = 11 }},
		{"edge ID 0", func(p *api.Plan) { p.Edges[south].ID = 0 }},
		{"edge ID below 0", func(p *api.Plan) { p.Edges[south].ID = -4 }},
		{"the least edge ID", func(p *api.Plan) { p.Edges[south].ID = math.MinInt }},
		{"edge ID above MaxID", func(p *api.Plan) { p.Edges[fence].ID = api.MaxID + 1 }},
		{"the greatest edge ID", func(p *api.Plan) { p.Edges[fence].ID = math.MaxInt }},
		{"edges swapped", func(p *api.Plan) { p.Edges[4], p.Edges[5] = p.Edges[5], p.Edges[4] }},
	}
	for _, q := range []api.P{at(most+1, 0), at(-most-1, 0), at(0, most+1), at(0, -most-1), at(math.MaxInt64, math.MinInt64), at(math.MinInt64, 0)} {
		for _, n := range []int{southWest, inUpper, outside} {
			l = append(l, fault{"a node beyond the grid", func(p *api.Plan) { p.Nodes[n].P = q }})
		}
	}
	return l
}

// nodes: what makes it ErrNode.
func nodes() []fault {
	return []fault{
		{"two nodes alone at one point", func(p *api.Plan) { p.Nodes[outside].P = p.Nodes[inUpper].P }},
		{"a node alone where an edge ends", func(p *api.Plan) { p.Nodes[inPond].P = p.Nodes[southWest].P }},
		{"two ends at one point", func(p *api.Plan) { p.Nodes[southWest].P = p.Nodes[northEast].P }},
		{"the last two at one point", func(p *api.Plan) { p.Nodes[outside].P = p.Nodes[fenceEnd].P }},
	}
}

// lines: what makes it ErrLine.
func lines() []fault {
	to := func(what string, edge int, n ...int64) fault {
		return fault{what, func(p *api.Plan) { p.Edges[edge].Line = of(n...) }}
	}
	var long []int64
	for i := range int64(api.MaxVerts) {
		long = append(long, 40+i, 9-9*(i%2))
	}
	return []fault{
		to("no point", fence), to("no point of the first edge", south), to("one point", fence, 40, 9),
		to("a point twice", fence, 40, 9, 45, 5, 45, 5, 40, 0),
		to("there and back", pond, 12, 4, 14, 8, 12, 4),
		to("back on itself", fence, 40, 9, 45, 5, 41, 5, 44, 5, 40, 0),
		to("across itself", fence, 40, 9, 46, 0, 46, 9, 40, 0),
		to("on itself by a bend", fence, 40, 9, 46, 9, 46, 0, 43, 9, 40, 0),
		to("an eight", pond, 12, 4, 15, 8, 12, 8, 15, 4, 12, 4),
		to("beyond the grid", fence, 40, 9, most+1, 5, 40, 0),
		to("beyond the grid by Y", fence, 40, 9, 45, -most-1, 40, 0),
		to("far beyond the grid", fence, 40, 9, math.MaxInt64, math.MinInt64, 40, 0),
		to("more than MaxVerts", fence, append(long, 120, 0)...),
	}
}

// ends: what makes it ErrEnds.
func ends() []fault {
	return []fault{
		{"no Start", func(p *api.Plan) { p.Edges[fence].Start = 32 }},
		{"no End", func(p *api.Plan) { p.Edges[fence].End = 29 }},
		{"Start 0", func(p *api.Plan) { p.Edges[south].Start = 0 }},
		{"End below 0", func(p *api.Plan) { p.Edges[south].End = -3 }},
		{"Start and End swapped", func(p *api.Plan) { p.Edges[lane].Start, p.Edges[lane].End = p.Edges[lane].End, p.Edges[lane].Start }},
		{"Start another node's", func(p *api.Plan) { p.Edges[path].Start = 9 }},
		{"End another node's", func(p *api.Plan) { p.Edges[path].End = 3 }},
		{"the line turned", func(p *api.Plan) { slices.Reverse(p.Edges[fence].Line) }},
		{"the first point elsewhere by X", func(p *api.Plan) { p.Edges[fence].Line[0].X++ }},
		{"the first point elsewhere by Y", func(p *api.Plan) { p.Edges[fence].Line[0].Y-- }},
		{"the last point elsewhere by X", func(p *api.Plan) { p.Edges[fence].Line[2].X-- }},
		{"the last point elsewhere by Y", func(p *api.Plan) { p.Edges[fence].Line[2].Y++ }},
		{"the last point elsewhere, of the first edge", func(p *api.Plan) { p.Edges[south].Line[2].Y-- }},
		{"a node that moved", func(p *api.Plan) { p.Nodes[pathEnd].P = at(5, 2) }},
		{"a node that went", func(p *api.Plan) { p.Nodes = slices.Delete(p.Nodes, pathEnd, pathEnd+1) }},
		{"a closed edge of two nodes", func(p *api.Plan) { p.Edges[pond].End = 9 }},
		{"an open edge of one node", func(p *api.Plan) { p.Edges[fence].End = 31 }},
	}
}

// crosses: what makes it ErrCross.
func crosses() []fault {
	to := func(what string, edge int, n ...int64) fault {
		return fault{what, func(p *api.Plan) { p.Edges[edge].Line = of(n...) }}
	}
	stray := func(what string, n int, q api.P) fault {
		return fault{what, func(p *api.Plan) { p.Nodes[n].P = q }}
	}
	return []fault{
		to("across others", fence, 40, 9, 10, 5, 40, 0),
		to("across one by its last segment alone", lane, 20, 20, 19, 10, 0, 0),
		to("on another by a bend", fence, 40, 9, 20, 10, 40, 0),
		to("at a bend of another by a bend", fence, 40, 9, 20, 0, 40, 0),
		to("by a bend at another's end", fence, 40, 9, 20, 20, 40, 0),
		to("by a bend at a node that stands alone", fence, 40, 9, -5, 50, -5, -5, 40, 0),
		to("along another", path, 4, 2, 5, 5, 0, 0),
		to("the same line again", lane, 20, 20, 0, 20, 0, 0),
		to("by a bend at its own pond's node", path, 4, 2, 12, 4, 0, 0),
		{"an end on another line", func(p *api.Plan) { p.Nodes[pathEnd].P, p.Edges[path].Line[0] = at(4, 4), at(4, 4) }},
		{"an end at another line's bend", func(p *api.Plan) { p.Nodes[pathEnd].P, p.Edges[path].Line = at(20, 0), of(20, 0, 2, 1, 0, 0) }},
		{"an edge twice", func(p *api.Plan) {
			e := p.Edges[fence]
			e.ID++
			p.Edges = append(p.Edges, e)
		}},
		stray("a node on a line", inUpper, at(0, 7)),
		stray("a node on a slant", inUpper, at(7, 7)),
		stray("a node at a bend", inUpper, at(0, 20)),
		stray("the last node on the first line", outside, at(5, 0)),
		stray("the last node on the last line", outside, at(45, 5)),
		stray("a node on a closed line", inPond, at(13, 6)),
	}
}

// Promise 16.1: each fault alone; Faces tells it too.
func TestShape(t *testing.T) {
	for _, kind := range []struct {
		e api.Errno
		l []fault
	}{
		{api.ErrForm, forms()}, {api.ErrNode, nodes()}, {api.ErrLine, lines()}, {api.ErrEnds, ends()}, {api.ErrCross, crosses()},
	} {
		for _, f := range kind.l {
			p := croft()
			f.do(&p)
			hold(t, f.what, p, kind.e, kind.e)
		}
	}
}

// Promise 16.1: what looks like a fault and is none.
func TestNoFault(t *testing.T) {
	long := of(40, 9)
	for i := range int64(api.MaxVerts - 2) {
		long = append(long, at(41+i, 9-4*(i%2)))
	}
	long = append(long, at(40, 0))
	for _, f := range []fault{
		{"the least and the greatest IDs", func(p *api.Plan) {
			p.Nodes[outside].ID, p.Edges[fence].ID = api.MaxID, api.MaxID
			p.Nodes[southWest].ID, p.Edges[south].Start, p.Edges[north].Start, p.Edges[lane].End, p.Edges[path].End = 1, 1, 1, 1, 1
		}},
		{"a node at the bounds", func(p *api.Plan) { p.Nodes[outside].P = at(-most, most) }},
		{"a line to the bounds", func(p *api.Plan) { p.Edges[fence].Line[1] = at(most, -most) }},
		{"a line of MaxVerts points", func(p *api.Plan) { p.Edges[fence].Line = long }},
		{"a node right beside a line", func(p *api.Plan) { p.Nodes[inUpper].P = at(7, 8) }},
		{"a node straight on from a line's end", func(p *api.Plan) { p.Nodes[inLower].P = at(6, 3) }},
		{"a line right beside others", func(p *api.Plan) { p.Edges[fence].Line = of(40, 9, 21, 9, 21, -1, 40, 0) }},
		{"a point on a line's way", func(p *api.Plan) { p.Edges[lane].Line = of(20, 20, 12, 12, 0, 0) }},
		{"no edge at all", func(p *api.Plan) {
			p.Edges = nil
			for i := range p.Nodes {
				p.Nodes[i].Face = 0
			}
		}},
	} {
		p := croft()
		f.do(&p)
		hold(t, f.what, p, api.OK, api.OK)
	}
	if n := len(long); n != api.MaxVerts {
		t.Error("the long line has", n)
	}
}

// Promise 16.1: of several faults the first kind counts, wherever in the plan they are; any of them counts ahead of faces (16.2).
func TestOrderOfFaults(t *testing.T) {
	kinds := []struct {
		e    api.Errno
		some []fault
	}{
		{api.ErrForm, []fault{{"first", func(p *api.Plan) { p.Nodes[southWest].ID = 0 }}, {"last", func(p *api.Plan) { p.Edges[fence].ID = 1 }}, {"last", func(p *api.Plan) { p.Nodes[inPond].P.Y = -most - 1 }}}},
		{api.ErrNode, []fault{{"first", func(p *api.Plan) { p.Nodes[inLower].P = p.Nodes[southWest].P }}, {"last", func(p *api.Plan) { p.Nodes[outside].P = p.Nodes[fenceEnd].P }}}},
		{api.ErrLine, []fault{{"first", func(p *api.Plan) { p.Edges[south].Line = nil }}, {"last", func(p *api.Plan) { p.Edges[fence].Line = of(40, 9, 40, 9, 40, 0) }}}},
		{api.ErrEnds, []fault{{"first", func(p *api.Plan) { p.Edges[north].Start = 1 }}, {"last", func(p *api.Plan) { p.Edges[path].Line = of(5, 2, 0, 0) }}}},
		{api.ErrCross, []fault{{"first", func(p *api.Plan) { p.Edges[lane].Line = of(20, 20, 20, 0, 0, 0) }}, {"last", func(p *api.Plan) { p.Nodes[inUpper].P = at(0, 7) }}}},
		{api.ErrFace, []fault{{"first", func(p *api.Plan) { p.Nodes[northEast].Face = 0 }}, {"last", func(p *api.Plan) { p.Edges[pond].Right = -7 }}}},
	}
	for i, a := range kinds {
		for k, b := range kinds {
			for _, f := range a.some {
				for _, g := range b.some {
					p, q := croft(), croft()
					f.do(&p)
					g.do(&p)
					g.do(&q)
					f.do(&q)
					want := kinds[min(i, k)].e
					shape := want
					if want == api.ErrFace {
						shape = api.OK
					}
					hold(t, []any{a.e, f.what, b.e, g.what}, p, shape, want)
					hold(t, []any{b.e, g.what, a.e, f.what}, q, shape, want)
				}
			}
		}
	}
}

// Promise 16.2: each region has a face of its own, the first 0; nodes that edges have tell none.
func TestFaces(t *testing.T) {
	pondTo := func(f int) func(p *api.Plan) {
		return func(p *api.Plan) { p.Edges[pond].Right, p.Nodes[inPond].Face = f, f }
	}
	upperTo := func(f int) func(p *api.Plan) {
		return func(p *api.Plan) { p.Edges[north].Right, p.Edges[lane].Right, p.Nodes[inUpper].Face = f, f, f }
	}
	for _, f := range []fault{
		{"another face", pondTo(901)}, {"the least face", pondTo(1)}, {"the greatest face", pondTo(api.MaxID)}, {"upper another one", upperTo(900000)},
		{"two that change places", func(p *api.Plan) { pondTo(3)(p); upperTo(900)(p) }},
	} {
		p := croft()
		f.do(&p)
		hold(t, f.what, p, api.OK, api.OK)
	}
	l := []fault{
		{"a face that others have", pondTo(7)}, {"a face that a far one has", pondTo(3)}, {"upper as lower", upperTo(7)},
		{"the first one's face", pondTo(0)}, {"the first one's face, of one beside it", upperTo(0)},
		{"below 0", pondTo(-1)}, {"far below 0", pondTo(math.MinInt)}, {"above MaxID", pondTo(api.MaxID + 1)}, {"far above", upperTo(math.MaxInt)},
		{"the first not 0", func(p *api.Plan) {
			p.Edges[south].Right, p.Edges[north].Left, p.Edges[fence].Left, p.Edges[fence].Right, p.Nodes[outside].Face = 1, 1, 1, 1, 1
		}},
		{"the first and another one change places", func(p *api.Plan) {
			p.Edges[south].Right, p.Edges[north].Left, p.Edges[fence].Left, p.Edges[fence].Right, p.Nodes[outside].Face = 900, 900, 900, 900, 900
			pondTo(0)(p)
		}},
		{"the first has two", func(p *api.Plan) { p.Edges[fence].Left, p.Edges[fence].Right = 1, 1 }},
		{"sides swapped", func(p *api.Plan) { p.Edges[pond].Left, p.Edges[pond].Right = p.Edges[pond].Right, p.Edges[pond].Left }},
		{"a hole of another face", func(p *api.Plan) { p.Edges[pond].Left = 8 }},
	}
	for _, n := range []int{southWest, northEast, pondNode, pathEnd, fenceStart, fenceEnd} {
		for _, f := range []int{-2, 0, 3, 7, 900, math.MaxInt, math.MinInt} {
			l = append(l, fault{"an end with a face", func(p *api.Plan) { p.Nodes[n].Face = f }})
		}
	}
	for _, n := range []int{inLower, inUpper, inPond, outside} {
		for _, f := range []int{-1, 1, -3, 4000, api.MaxID + 1} {
			l = append(l, fault{"a node of another face", func(p *api.Plan) { p.Nodes[n].Face = f }})
		}
	}
	for e := range croft().Edges {
		l = append(l, fault{"a left side of another face", func(p *api.Plan) { p.Edges[e].Left += 5 }}, fault{"a right side of another face", func(p *api.Plan) { p.Edges[e].Right += 5 }})
	}
	for _, f := range l {
		p := croft()
		f.do(&p)
		hold(t, f.what, p, api.OK, api.ErrFace)
	}
}

// Promise 16.2: plans of nodes alone have the first region alone.
func TestFacesOfNodes(t *testing.T) {
	for _, c := range []struct {
		face int
		want api.Errno
	}{{0, api.OK}, {1, api.ErrFace}, {-1, api.ErrFace}, {api.MaxID, api.ErrFace}} {
		one := api.Plan{Nodes: []api.Node{{ID: 1, Face: c.face}}}
		two := api.Plan{Nodes: []api.Node{{ID: 1, P: at(1, 1), Face: 0}, {ID: 2, Face: c.face}}}
		hold(t, c, one, api.OK, c.want)
		hold(t, c, two, api.OK, c.want)
	}
}

// Promise 16.1: as many nodes and edges as there may be, and one more.
func TestMost(t *testing.T) {
	var stars api.Plan
	for i := range api.MaxNodes {
		stars.Nodes = append(stars.Nodes, api.Node{ID: i + 1, P: at(int64(i), 0)})
	}
	hold(t, "most nodes", stars, api.OK, api.OK)
	stars.Nodes = append(stars.Nodes, api.Node{ID: api.MaxNodes + 1, P: at(-1, 0)})
	hold(t, "one node more", stars, api.ErrForm, api.ErrForm)

	fan := api.Plan{Nodes: []api.Node{{ID: 1, P: at(0, 0), Face: -1}, {ID: 2, P: at(9, 0), Face: -1}}}
	for i := range api.MaxEdges {
		// what lies below an edge is at its right, and at the left of the edge ahead of it
		fan.Edges = append(fan.Edges, api.Edge{ID: i + 1, Start: 1, End: 2, Line: of(0, 0, 5, int64(i+1), 9, 0), Left: i + 1, Right: i})
	}
	fan.Edges[api.MaxEdges-1].Left = 0
	hold(t, "most edges", fan, api.OK, api.OK)
	if a, b := valid.Area(fan); !valid.Euler(fan) || a != 9*(api.MaxEdges-1) || b != a {
		t.Error("most edges", valid.Euler(fan), a, b)
	}
	fan.Edges = append(fan.Edges, api.Edge{ID: api.MaxEdges + 1, Start: 1, End: 2, Line: of(0, 0, 5, -1, 9, 0)})
	hold(t, "one edge more", fan, api.ErrForm, api.ErrForm)
}

// zigzags: as many edges as there may be, each of as many points as it may have, up and down one above the other between two nodes: all of their boxes overlap.
func zigzags() api.Plan {
	p := api.Plan{Nodes: []api.Node{{ID: 1, P: at(0, 0), Face: -1}, {ID: 2, P: at(700000, 0), Face: -1}}}
	for i := range api.MaxEdges {
		l := of(0, 0)
		for k := range int64(api.MaxVerts - 2) {
			l = append(l, at(10+10000*k, k%2*100000+int64(4*i)+1))
		}
		e := api.Edge{ID: i + 1, Start: 1, End: 2, Line: append(l, at(700000, 0)), Left: i + 1, Right: i}
		p.Edges = append(p.Edges, e)
	}
	p.Edges[api.MaxEdges-1].Left = 0
	return p
}

// Promise 16.4 (16.1 to 16.3): the largest plans are told too, and the last pair of segments counts.
func TestZigzags(t *testing.T) {
	p := zigzags()
	if e := valid.Faces(p); e != api.OK {
		t.Error("zigzags", e)
	}
	gap := p.Edges[api.MaxEdges-1].Line[1].Y - p.Edges[0].Line[1].Y
	want := gap * (10 + 2*(610010-10) + (700000 - 610010)) // a triangle, as wide a gap all along, a triangle
	if a, b := valid.Area(p); a != want || b != want || !valid.Euler(p) {
		t.Error(a, b, want, valid.Euler(p))
	}
	last := p.Edges[api.MaxEdges-1].Line
	last[api.MaxVerts-2].Y -= 4
	if e := valid.Shape(p); e != api.ErrCross {
		t.Error("two bends at one point", e)
	}
}

// Promise 16.3: Euler counts what stands there: nodes that are wanting make another number.
func TestEulerCounts(t *testing.T) {
	p := square()
	p.Nodes = nil
	if valid.Euler(p) || valid.Euler(api.Plan{Edges: croft().Edges}) {
		t.Error("edges without nodes")
	}
	p = croft()
	p.Nodes = slices.Delete(p.Nodes, outside, outside+1) // it is gone as a node and as a part
	if !valid.Euler(p) {
		t.Error("a node alone that went")
	}
}

// copyOf: the same plan in memory of its own.
func copyOf(p api.Plan) api.Plan {
	p.Nodes, p.Edges = slices.Clone(p.Nodes), slices.Clone(p.Edges)
	for i := range p.Edges {
		p.Edges[i].Line = slices.Clone(p.Edges[i].Line)
	}
	return p
}

// roomy: the same plan, with lists that have room behind them, filled.
func roomy(p api.Plan) api.Plan {
	p = copyOf(p)
	p.Nodes = append(p.Nodes, api.Node{ID: 77})[:len(p.Nodes)]
	p.Edges = append(p.Edges, api.Edge{ID: 77})[:len(p.Edges)]
	for i, e := range p.Edges {
		p.Edges[i].Line = append(e.Line, at(7, 7))[:len(e.Line)]
	}
	return p
}

// whole: the plan with the room behind its lists.
func whole(p api.Plan) api.Plan {
	p.Nodes, p.Edges = p.Nodes[:cap(p.Nodes)], slices.Clone(p.Edges[:cap(p.Edges)])
	for i, e := range p.Edges {
		p.Edges[i].Line = e.Line[:cap(e.Line)]
	}
	return p
}

// Rule 3: what is handed in is not changed, nor the room behind its lists.
func TestMemory(t *testing.T) {
	for _, f := range slices.Concat([]fault{{"none", func(*api.Plan) {}}}, forms(), lines(), ends(), crosses()) {
		p := croft()
		f.do(&p)
		p = roomy(p)
		before := copyOf(whole(p))
		valid.Shape(p)
		valid.Faces(p)
		valid.Euler(p)
		valid.Area(p)
		if !reflect.DeepEqual(whole(p), before) {
			t.Error("what was handed in has changed", f.what)
		}
	}
}
