package topo_test

import (
	"math"
	"math/rand"
	"slices"
	"testing"

	"terrier/api"
	"terrier/topo"
	"terrier/valid"
)

// size: how wide and high an estate is.
const size = 48

// field is a rectangle, without what is around it, and its face.
type field struct {
	lo, hi api.P
	face   int
}

// estate is a plan in the making, of fields within fields: in which face a point lies is known by them, without rings or rays. Its lines go along X or Y.
type estate struct {
	r      *rand.Rand
	names  []int   // faces that no field has yet
	fields []field // those within a field stand behind it
	p      api.Plan
}

func lay(r *rand.Rand) *estate {
	s := &estate{r: r, names: append(r.Perm(600), api.MaxID)}
	s.names = slices.DeleteFunc(s.names, func(f int) bool { return f == 0 })
	s.fill(field{at(0, 0), at(size, size), 0})
	s.number()
	return s
}

// fill puts things into both halves of f, that do not touch each other or its bounds.
func (s *estate) fill(f field) {
	if f.hi.X-f.lo.X < 7 || f.hi.Y-f.lo.Y < 4 {
		return
	}
	cut := f.lo.X + 3 + s.r.Int63n(f.hi.X-f.lo.X-6)
	for _, half := range []field{{f.lo, at(cut, f.hi.Y), f.face}, {at(cut, f.lo.Y), f.hi, f.face}} {
		switch s.r.Intn(8) {
		case 0:
		case 1: // a fence
			x := half.lo.X + 1
			s.draw(of(x, half.lo.Y+1, x, half.hi.Y-1), f.face, f.face)
		default:
			s.build(half)
		}
	}
}

// build puts a field into f, or two with a wall between them.
func (s *estate) build(f field) {
	a, b := s.span(f.lo.X, f.hi.X)
	c, d := s.span(f.lo.Y, f.hi.Y)
	left := field{at(a, c), at(b, d), s.name()}
	if b-a < 2 || s.r.Intn(2) == 0 {
		l := of(a, c, b, c, b, d, a, d, a, c)
		if s.r.Intn(2) == 0 {
			s.draw(l, left.face, f.face)
		} else {
			s.draw(slices.Clone(l[:3]), left.face, f.face)
			s.draw(slices.Clone(l[2:]), left.face, f.face)
		}
		s.add(left)
		return
	}
	w := a + 1 + s.r.Int63n(b-a-1)
	right := field{at(w, c), at(b, d), s.name()}
	left.hi.X = w
	s.draw(of(w, d, a, d, a, c, w, c), left.face, f.face)
	s.draw(of(w, c, b, c, b, d, w, d), right.face, f.face)
	s.draw(of(w, c, w, d), left.face, right.face)
	s.add(left)
	s.add(right)
}

// span: two numbers between lo and hi, mostly far apart.
func (s *estate) span(lo, hi int64) (int64, int64) {
	a := lo + 1 + s.r.Int63n(max((hi-lo)/4, 1))
	return a, max(hi-1-s.r.Int63n(max((hi-lo)/4, 1)), a+1)
}

func (s *estate) name() int {
	f := s.names[len(s.names)-1]
	s.names = s.names[:len(s.names)-1]
	return f
}

func (s *estate) add(f field) {
	s.fields = append(s.fields, f)
	s.fill(f)
}

// draw adds a line, either way round.
func (s *estate) draw(l []api.P, left, right int) {
	if s.r.Intn(2) == 0 {
		slices.Reverse(l)
		left, right = right, left
	}
	s.p.Edges = append(s.p.Edges, api.Edge{Line: l, Left: left, Right: right})
	for _, q := range []api.P{l[0], l[len(l)-1]} {
		if !slices.ContainsFunc(s.p.Nodes, func(n api.Node) bool { return n.P == q }) {
			s.p.Nodes = append(s.p.Nodes, api.Node{P: q, Face: -1})
		}
	}
}

// number gives IDs, in any order, with gaps.
func (s *estate) number() {
	n, e := s.p.Nodes, s.p.Edges
	s.r.Shuffle(len(n), func(i, k int) { n[i], n[k] = n[k], n[i] })
	s.r.Shuffle(len(e), func(i, k int) { e[i], e[k] = e[k], e[i] })
	last, ids := 0, map[api.P]int{}
	for i := range n {
		last += 1 + s.r.Intn(2)
		n[i].ID, ids[n[i].P] = last, last
	}
	for i, x := range e {
		e[i].ID, e[i].Start, e[i].End = 2*i+1, ids[x.Line[0]], ids[x.Line[len(x.Line)-1]]
	}
}

// where: the face in which q lies; false, if it is a node of p or on an edge.
func (s *estate) where(p api.Plan, q api.P) (int, bool) {
	for _, n := range p.Nodes {
		if n.P == q {
			return 0, false
		}
	}
	for _, e := range p.Edges {
		for i, a := range e.Line[1:] {
			b := e.Line[i]
			if min(a.X, b.X) <= q.X && q.X <= max(a.X, b.X) && min(a.Y, b.Y) <= q.Y && q.Y <= max(a.Y, b.Y) {
				return 0, false
			}
		}
	}
	f := 0
	for _, x := range s.fields {
		if x.lo.X < q.X && q.X < x.hi.X && x.lo.Y < q.Y && q.Y < x.hi.Y {
			f = x.face
		}
	}
	return f, true
}

// addByWords: what AddNode should tell.
func (s *estate) addByWords(p api.Plan, q api.P) change {
	f, free := s.where(p, q)
	switch {
	case !free:
		return refused(api.ErrPoint)
	case len(p.Nodes) >= api.MaxNodes:
		return refused(api.ErrMany)
	}
	var ids []int
	for _, n := range p.Nodes {
		ids = append(ids, n.ID)
	}
	p = copyOf(p)
	id := unusedByWords(ids)
	p.Nodes = append(p.Nodes, api.Node{ID: id, P: q, Face: f})
	slices.SortFunc(p.Nodes, func(a, b api.Node) int { return a.ID - b.ID })
	return change{p, id, api.OK}
}

// remByWords: what RemNode should tell.
func remByWords(p api.Plan, id int) change {
	i := slices.IndexFunc(p.Nodes, func(n api.Node) bool { return n.ID == id })
	switch {
	case i < 0:
		return refused(api.ErrNode)
	case p.Nodes[i].Face < 0:
		return refused(api.ErrIso)
	}
	p = copyOf(p)
	p.Nodes = slices.Delete(p.Nodes, i, i+1)
	return change{p, 0, api.OK}
}

// moveByWords: what MoveNode should tell.
func (s *estate) moveByWords(p api.Plan, id int, q api.P) change {
	rest := remByWords(p, id)
	if rest.e != api.OK {
		return rest
	}
	i := slices.IndexFunc(p.Nodes, func(n api.Node) bool { return n.ID == id })
	f, free := s.where(rest.p, q)
	switch {
	case !free:
		return refused(api.ErrPoint)
	case f != p.Nodes[i].Face:
		return refused(api.ErrFace)
	}
	p = copyOf(p)
	p.Nodes[i].P = q
	return change{p, 0, api.OK}
}

// facesByWords: 0 and the fields' faces.
func (s *estate) facesByWords() []int {
	l := []int{0}
	for _, f := range s.fields {
		l = append(l, f.face)
	}
	slices.Sort(l)
	return l
}

// moved: the plan with each point led elsewhere.
func moved(p api.Plan, to func(api.P) api.P) api.Plan {
	p = copyOf(p)
	for i := range p.Nodes {
		p.Nodes[i].P = to(p.Nodes[i].P)
	}
	for _, e := range p.Edges {
		for i := range e.Line {
			e.Line[i] = to(e.Line[i])
		}
	}
	return p
}

// ways to lead points elsewhere that keep what is at the left, up to the grid's bounds.
func ways() []func(api.P) api.P {
	const far = most / (size + 4)
	return []func(api.P) api.P{
		func(q api.P) api.P { return q },
		func(q api.P) api.P { return at(-q.Y, q.X) },
		func(q api.P) api.P { return at(q.X+most-size-2, q.Y-most+2) },
		func(q api.P) api.P { return at(q.X*far-9, most-(size+2-q.Y)*far) },
		func(q api.P) api.P { return at(q.X-q.Y*far, q.Y) },
		func(q api.P) api.P { return at(q.X*7-q.Y*3, q.Y*5+q.X*2) },
	}
}

// Promises 17.2, 17.3 (W3, W4, W5, W7): node after node comes, goes elsewhere and goes, as the words have it; what was sound stays so, with its regions and areas, wherever it lies.
func TestWalks(t *testing.T) {
	r := noise()
	kinds := map[api.Errno]int{}
	deep := 0
	for i := range 90 {
		s := lay(r)
		to := ways()[i%len(ways())]
		p := s.p
		inside, outline := valid.Area(moved(p, to))
		for range 50 {
			before := moved(p, to)
			given := copyOf(before)
			q := at(r.Int63n(size+5)-2, r.Int63n(size+5)-2)
			id := r.Intn(99) - 9
			if len(p.Nodes) > 0 && r.Intn(6) > 0 {
				id = p.Nodes[r.Intn(len(p.Nodes))].ID
			}
			var got, want change
			switch r.Intn(7) {
			case 0:
				got, want = rem(given, id), remByWords(p, id)
			case 1, 2, 3:
				got, want = move(given, id, to(q)), s.moveByWords(p, id, q)
			default:
				got, want = add(given, to(q)), s.addByWords(p, q)
			}
			if want.e == api.OK {
				p = want.p
				want.p = moved(p, to)
			}
			hold(t, q, got, want)
			kinds[want.e]++
			if a, b := valid.Area(got.p); got.e == api.OK && (a != inside || b != outline || !valid.Euler(got.p)) {
				t.Error("Area", a, b, inside, outline, "Euler", valid.Euler(got.p))
			}
			if !alike(given, before) {
				t.Error("what was handed in has changed")
			}
			if l := topo.FaceIDs(given); !slices.Equal(l, s.facesByWords()) {
				t.Error("FaceIDs", l)
			}
			if alone := slices.ContainsFunc(before.Nodes, func(n api.Node) bool { return n.ID == id && n.Face >= 0 }); topo.Isolated(given, id) != alone {
				t.Error("Isolated", id, !alone)
			}
			if t.Failed() {
				t.Fatal(before)
			}
		}
		deep = max(deep, len(s.fields))
	}
	for _, e := range []api.Errno{api.OK, api.ErrPoint, api.ErrNode, api.ErrIso, api.ErrFace} {
		if kinds[e] < 50 {
			t.Error("too few of a kind", kinds)
		}
	}
	if deep < 10 {
		t.Error("too few fields", deep)
	}
}

// Promise 17.2 (W6): of each point in and around a plan AddNode tells whether it is free, and in which face it lies.
func TestEachPoint(t *testing.T) {
	r := noise()
	for range 8 {
		s := lay(r)
		for x := range int64(size + 3) {
			for y := range int64(size + 3) {
				q := at(x-1, y-1)
				got, want := add(s.p, q), s.addByWords(s.p, q)
				if got.e != want.e || got.id != want.id || !alike(got.p, want.p) {
					t.Fatal(q, "told", got, "not", want)
				}
			}
		}
	}
}

// raw: a plan in which nothing fits.
func raw(r *rand.Rand, nodes, edges int) api.Plan {
	odd := []int{1, 2, 3, 4, 5, 6, 0, -1, -2, -3, api.MaxID, api.MaxID + 1, math.MaxInt, math.MinInt, math.MinInt + 1}
	pick := func() int { return odd[r.Intn(len(odd))] }
	point := func() api.P {
		if r.Intn(9) == 0 {
			return at(int64(pick()), int64(pick()))
		}
		return at(r.Int63n(7), r.Int63n(7))
	}
	var p api.Plan
	for range nodes {
		p.Nodes = append(p.Nodes, api.Node{ID: pick(), P: point(), Face: pick()})
	}
	for range edges {
		e := api.Edge{ID: pick(), Start: pick(), End: pick(), Left: pick(), Right: pick()}
		for range r.Intn(6) {
			e.Line = append(e.Line, point())
		}
		if len(e.Line) > 2 && r.Intn(2) == 0 {
			e.End, e.Line = e.Start, append(e.Line, e.Line[0])
		}
		p.Edges = append(p.Edges, e)
	}
	return p
}

// Promise 17.3 (W9, W11): of plans in which nothing fits every call is answered, and they stay as they are.
func TestRaw(t *testing.T) {
	r := noise()
	for i := range 1500 {
		p := raw(r, r.Intn(7), r.Intn(9))
		if i%500 == 0 {
			p = raw(r, 900, 700)
		}
		given := copyOf(p)
		for _, q := range append(beyond(), at(r.Int63n(7), r.Int63n(7)), at(3, 3)) {
			told := []change{add(given, q)}
			for _, id := range []int{1, 2, 0, -1, math.MinInt, math.MaxInt} {
				told = append(told, move(given, id, q), rem(given, id))
				topo.Isolated(given, id)
			}
			for _, c := range told {
				if c.e != api.OK && (c.id != 0 || len(c.p.Nodes)+len(c.p.Edges) > 0) {
					t.Error("beside an error", c)
				}
			}
		}
		topo.FaceIDs(given)
		if !alike(given, p) {
			t.Fatal("what was handed in has changed", p, given)
		}
	}
}
