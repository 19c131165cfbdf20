package find_test

import (
	"math"
	"math/big"
	"math/rand"
	"reflect"
	"slices"
	"testing"

	"terrier/api"
	"terrier/edit"
	"terrier/find"
	"terrier/plan"
	"terrier/topo"
	"terrier/valid"
)

// leads: ways to lead points of 0 to 20 elsewhere that keep what is at the left, up to the grid's bounds.
func leads() []func(api.P) api.P {
	const far = most / 32
	return []func(api.P) api.P{
		func(q api.P) api.P { return q },
		func(q api.P) api.P { return at(-q.Y, q.X) },
		func(q api.P) api.P { return at(q.X+most-20, q.Y-most) },
		func(q api.P) api.P { return at(q.X*far-9, most-(20-q.Y)*far) },
		func(q api.P) api.P { return at(q.X-q.Y*far, q.Y) },
		func(q api.P) api.P { return at(q.X*7-q.Y*3, q.Y*5+q.X*2) },
	}
}

// mesh: places for nodes, five by five, and what may be laid between two that are side by side.
type mesh struct {
	r  *rand.Rand
	to func(api.P) api.P
}

// wire: an edge from a place to one beside it, straight, over a point on its way, or with a bend.
func (m mesh) wire() []api.P {
	a := at(m.r.Int63n(5)*4+2, m.r.Int63n(5)*4+2)
	d := []api.P{at(1, 0), at(0, 1), at(-1, 0), at(0, -1)}[m.r.Intn(4)]
	b := at(a.X+4*d.X, a.Y+4*d.Y)
	if b.X < 2 || b.Y < 2 || b.X > 18 || b.Y > 18 {
		return nil
	}
	side := m.r.Int63n(5) - 2
	l := []api.P{m.to(a), m.to(at(a.X+2*d.X-side*d.Y/2, a.Y+2*d.Y+side*d.X/2)), m.to(b)}
	if side < -1 || side > 1 {
		return l
	}
	return slices.Delete(l, 1, 2)
}

// loop: an edge from a place round to itself, within the four places that are next.
func (m mesh) loop() []api.P {
	a := at(m.r.Int63n(5)*4+2, m.r.Int63n(5)*4+2)
	dx, dy := 2*m.r.Int63n(2)-1, 2*m.r.Int63n(2)-1
	return []api.P{m.to(a), m.to(at(a.X+2*dx, a.Y+dy)), m.to(at(a.X+dx, a.Y+2*dy)), m.to(a)}
}

// plan: a mesh with some edges, at times with a fence round them, and some nodes that stand alone between them.
func (m mesh) plan() api.Plan {
	var p api.Plan
	id := 0
	if m.r.Intn(2) == 0 {
		id++
		p.Nodes = append(p.Nodes, api.Node{ID: id, P: m.to(at(0, 0))})
		p, _, _ = edit.Add(p, id, id, []api.P{m.to(at(0, 0)), m.to(at(20, 0)), m.to(at(20, 20)), m.to(at(0, 20)), m.to(at(0, 0))}, false)
	}
	for i := range int64(25) {
		id += 1 + m.r.Intn(2)
		p.Nodes = append(p.Nodes, api.Node{ID: id, P: m.to(at(i%5*4+2, i/5*4+2)), Face: min(len(p.Edges), 1)})
	}
	for range 10 + m.r.Intn(80) {
		p = m.grown(p)
	}
	for _, n := range slices.Clone(p.Nodes) {
		if out, e := topo.RemNode(p, n.ID); e == api.OK && m.r.Intn(2) == 0 {
			p = out
		}
	}
	for range m.r.Intn(12) {
		if out, _, e := topo.AddNode(p, m.to(at(m.r.Int63n(21), m.r.Int63n(21)))); e == api.OK {
			p = out
		}
	}
	return p
}

// grown: the plan with an edge more, if the one that comes to mind fits.
func (m mesh) grown(p api.Plan) api.Plan {
	l := m.wire()
	if m.r.Intn(4) == 0 {
		l = m.loop()
	}
	if l == nil {
		return p
	}
	start, end := nodeAt(p, l[0]), nodeAt(p, l[len(l)-1])
	if out, _, e := edit.Add(p, start, end, l, m.r.Intn(2) == 0); e == api.OK {
		return out
	}
	return p
}

func nodeAt(p api.Plan, q api.P) int {
	for _, n := range p.Nodes {
		if n.P == q {
			return n.ID
		}
	}
	return 0
}

// edgeAt: the edge that has q, its ends too.
func edgeAt(p api.Plan, q api.P) int {
	for _, e := range p.Edges {
		for i := range e.Line[1:] {
			a, b := e.Line[i], e.Line[i+1]
			if cross(less(b, a), less(q, a)) == 0 && dot(less(a, q), less(b, q)) <= 0 {
				return e.ID
			}
		}
	}
	return 0
}

func less(a, b api.P) api.P { return at(a.X-b.X, a.Y-b.Y) }

func cross(a, b api.P) int64 { return a.X*b.Y - a.Y*b.X }

func dot(a, b api.P) int64 { return a.X*b.X + a.Y*b.Y }

// rayTells: the face that a ray from q tells: the one at the near side of the first edge that it meets. The ray goes to the right and up by so little that it comes to no other point of the grid.
func rayTells(p api.Plan, q api.P) int {
	ray := at(8*most, 1)
	f := 0
	var nearest *big.Rat
	for _, e := range p.Edges {
		for i := range e.Line[1:] {
			a, b := e.Line[i], e.Line[i+1]
			along := less(b, a)
			if (cross(ray, less(a, q)) > 0) == (cross(ray, less(b, q)) > 0) {
				continue
			}
			way := big.NewRat(cross(less(a, q), along), cross(ray, along))
			if way.Sign() <= 0 || nearest != nil && nearest.Cmp(way) <= 0 {
				continue
			}
			nearest, f = way, e.Right
			if cross(along, less(q, a)) > 0 {
				f = e.Left
			}
		}
	}
	return f
}

// atByWords: what should be told of q.
func atByWords(p api.Plan, q api.P) what {
	if n := nodeAt(p, q); n != 0 {
		return what{n, 0, -1}
	}
	if e := edgeAt(p, q); e != 0 {
		return what{0, e, -1}
	}
	if max(q.X, -q.X, q.Y, -q.Y) > most {
		return what{0, 0, -1}
	}
	return what{0, 0, rayTells(p, q)}
}

// ringsByWords: of all rings those that have f at their left, the one that turns left first.
func ringsByWords(p api.Plan, f int) [][]int {
	var outer, inner [][]int
	for _, ring := range plan.Rings(p) {
		e, _ := plan.Edge(p, max(ring[0], -ring[0]))
		left := e.Left
		if ring[0] < 0 {
			left = e.Right
		}
		var area int64
		l := plan.RingPoints(p, ring)
		for i, a := range l {
			area += cross(a, l[(i+1)%len(l)])
		}
		switch {
		case left == f && area > 0:
			outer = append(outer, ring)
		case left == f:
			inner = append(inner, ring)
		}
	}
	return append(outer, inner...)
}

// Promises 20.1, 20.3 (W6): each point of random plans is a node, on an edge, or in the face that a ray tells; each face has its rings.
func TestAllAt(t *testing.T) {
	r := noise()
	kinds := map[string]int{}
	for i := range 48 {
		m := mesh{r, leads()[i%len(leads())]}
		p := m.plan()
		if e := valid.Faces(p); e != api.OK {
			t.Fatal("the test's own plan", e)
		}
		for range 150 {
			q := m.to(at(r.Int63n(23)-1, r.Int63n(23)-1))
			want := atByWords(p, q)
			if got := look(t, p, q); got != want {
				t.Fatal(p, q, got, want)
			}
			switch {
			case want.node > 0:
				kinds["node"]++
			case want.edge > 0:
				kinds["edge"]++
			case want.face > 0:
				kinds["face"]++
			case want.face == 0:
				kinds["outside"]++
			}
		}
		for _, f := range append(topo.FaceIDs(p), -1, 5, 17, api.MaxID) {
			want := ringsByWords(p, f)
			if got := find.FaceRings(p, f); !slices.EqualFunc(got, want, slices.Equal) {
				t.Fatal(p, f, got, want)
			}
			if len(want) > 1 && f > 0 {
				kinds["holes"]++
			}
		}
		for _, n := range append(p.Nodes, api.Node{ID: 60}) {
			if got := find.NodeEdges(p, n.ID); !slices.Equal(got, plan.Round(p, n.ID)) {
				t.Fatal(p, n, got)
			}
		}
	}
	for _, k := range []string{"node", "edge", "face", "outside", "holes"} {
		if kinds[k] < 20 {
			t.Error("too few of a kind", kinds)
		}
	}
	t.Log(kinds)
}

// Promise 20.1: who stands alone lies in its face: without it FaceAt tells the face that it has.
func TestAloneInFace(t *testing.T) {
	r := noise()
	for i := range 30 {
		m := mesh{r, leads()[i%len(leads())]}
		p := m.plan()
		for _, n := range p.Nodes {
			if out, e := topo.RemNode(p, n.ID); e == api.OK {
				if f, ok := find.FaceAt(out, n.P); !ok || f != n.Face {
					t.Fatal(p, n, f, ok)
				}
			}
		}
	}
}

// copyOf: the same plan in memory of its own.
func copyOf(p api.Plan) api.Plan {
	p.Nodes, p.Edges = slices.Clone(p.Nodes), slices.Clone(p.Edges)
	for i := range p.Edges {
		p.Edges[i].Line = slices.Clone(p.Edges[i].Line)
	}
	return p
}

// roomy: the same plan, with lists that have room behind them, filled.
func roomy(p api.Plan) api.Plan {
	p = copyOf(p)
	p.Nodes = append(p.Nodes, api.Node{ID: 78})[:len(p.Nodes)]
	p.Edges = append(p.Edges, api.Edge{ID: 78})[:len(p.Edges)]
	for i, e := range p.Edges {
		p.Edges[i].Line = append(e.Line, at(7, 7))[:len(e.Line)]
	}
	return p
}

// whole: the plan with the room behind its lists.
func whole(p api.Plan) api.Plan {
	p.Nodes, p.Edges = p.Nodes[:cap(p.Nodes)], slices.Clone(p.Edges[:cap(p.Edges)])
	for i, e := range p.Edges {
		p.Edges[i].Line = e.Line[:cap(e.Line)]
	}
	return p
}

// smear writes over all lists of a plan, and over all of their room.
func smear(p api.Plan) {
	for _, e := range p.Edges[:cap(p.Edges)] {
		clear(e.Line[:cap(e.Line)])
	}
	clear(p.Nodes[:cap(p.Nodes)])
	clear(p.Edges[:cap(p.Edges)])
}

// askAll calls everything.
func askAll(p api.Plan, q api.P, id int) [][]int {
	find.NodeAt(p, q)
	find.EdgeAt(p, q)
	find.FaceAt(p, q)
	x := find.Build(p)
	nodes, edges := x.Window(q, at(q.X+5, q.Y+5))
	l := [][]int{find.NodeEdges(p, id), nodes, edges, near(x, q, q)}
	return append(l, find.FaceRings(p, id)...)
}

// Rule 3: what is handed in stays as it is, and the room behind its lists; no two lists of one answer share memory, their room too.
func TestMemory(t *testing.T) {
	p := roomy(croft())
	before := copyOf(whole(p))
	for _, n := range p.Nodes {
		for _, id := range []int{2, 3, 5, 7, 0, 900, n.ID} {
			all := askAll(p, n.P, id)
			want := askAll(p, n.P, id)
			for i, l := range all {
				clear(l[:cap(l)])
				if k := i + 1; k < len(all) && !slices.Equal(all[k], want[k]) {
					t.Error("two lists of one answer share memory", id, k)
				}
			}
			rings := find.FaceRings(p, id)
			clear(rings[:cap(rings)])
			if again := askAll(p, n.P, id); !reflect.DeepEqual(again, want) {
				t.Error("answers share memory", id, again, want)
			}
		}
	}
	if !reflect.DeepEqual(whole(p), before) {
		t.Error("what was handed in has changed")
	}
}

// raw: a plan in which nothing fits.
func raw(r *rand.Rand, nodes, edges int) api.Plan {
	odd := []int{1, 2, 3, 4, 5, 6, 0, -1, -2, -3, api.MaxID, api.MaxID + 1, math.MaxInt, math.MinInt, math.MinInt + 1}
	pick := func() int { return odd[r.Intn(len(odd))] }
	point := func() api.P {
		if r.Intn(9) == 0 {
			return at(int64(pick()), int64(pick()))
		}
		return at(r.Int63n(7), r.Int63n(7))
	}
	var p api.Plan
	for range nodes {
		p.Nodes = append(p.Nodes, api.Node{ID: pick(), P: point(), Face: pick()})
	}
	for range edges {
		e := api.Edge{ID: pick(), Start: pick(), End: pick(), Left: pick(), Right: pick()}
		for range r.Intn(6) {
			e.Line = append(e.Line, point())
		}
		if r.Intn(300) == 0 {
			e.Line = make([]api.P, 70)
		}
		p.Edges = append(p.Edges, e)
	}
	return p
}

// Promise 20.3 (W9, W11): of plans in which nothing fits every call is answered, and they stay as they are.
func TestRaw(t *testing.T) {
	r := noise()
	for i := range 3000 {
		p := raw(r, r.Intn(7), r.Intn(9))
		if i%1000 == 0 {
			p = raw(r, 300, 400)
		}
		given := copyOf(p)
		for _, id := range []int{0, 1, -1, 3, api.MaxID, math.MinInt} {
			q := at(r.Int63n(7), r.Int63n(7))
			askAll(given, q, id)
			askAll(given, at(int64(id), q.Y), id)
			if got := look(t, given, q); got.node != 0 && got.edge != 0 || got.face != -1 && (got.node != 0 || got.edge != 0) {
				t.Error(given, q, got)
			}
		}
		if !reflect.DeepEqual(given, copyOf(p)) {
			t.Fatal("what was handed in has changed", p, given)
		}
	}
}
