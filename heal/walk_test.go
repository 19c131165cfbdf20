package heal_test

import (
	"math"
	"math/rand"
	"reflect"
	"slices"
	"testing"

	"terrier/api"
	"terrier/edit"
	"terrier/heal"
	"terrier/valid"
)

// leads: ways to lead points of 0 to 20 elsewhere that keep what is at the left, up to the grid's bounds.
func leads() []func(api.P) api.P {
	const far = most / 32
	return []func(api.P) api.P{
		func(q api.P) api.P { return q },
		func(q api.P) api.P { return at(-q.Y, q.X) },
		func(q api.P) api.P { return at(q.X+most-20, q.Y-most) },
		func(q api.P) api.P { return at(q.X*far-9, most-(20-q.Y)*far) },
		func(q api.P) api.P { return at(q.X-q.Y*far, q.Y) },
		func(q api.P) api.P { return at(q.X*7-q.Y*3, q.Y*5+q.X*2) },
	}
}

// mesh: places for nodes, five by five, and what may be laid between two that are side by side.
type mesh struct {
	r  *rand.Rand
	to func(api.P) api.P
}

// wire: an edge from a place to one beside it, straight, over a point on its way, or with a bend.
func (m mesh) wire() []api.P {
	a := at(m.r.Int63n(5)*4+2, m.r.Int63n(5)*4+2)
	d := []api.P{at(1, 0), at(0, 1), at(-1, 0), at(0, -1)}[m.r.Intn(4)]
	b := at(a.X+4*d.X, a.Y+4*d.Y)
	if b.X < 2 || b.Y < 2 || b.X > 18 || b.Y > 18 {
		return nil
	}
	side := m.r.Int63n(5) - 2
	l := []api.P{m.to(a), m.to(at(a.X+2*d.X-side*d.Y/2, a.Y+2*d.Y+side*d.X/2)), m.to(b)}
	if side < -1 || side > 1 {
		return l
	}
	return slices.Delete(l, 1, 2)
}

// plan: a mesh with nodes of odd IDs at all places, and some edges.
func (m mesh) plan() api.Plan {
	var p api.Plan
	id := 0
	for i := range int64(25) {
		id += 1 + m.r.Intn(2)
		p.Nodes = append(p.Nodes, api.Node{ID: id, P: m.to(at(i%5*4+2, i/5*4+2))})
	}
	for range 20 + m.r.Intn(80) {
		p = m.grown(p)
	}
	return p
}

// grown: the plan with an edge more, if the one that comes to mind fits.
func (m mesh) grown(p api.Plan) api.Plan {
	l := m.wire()
	if l == nil {
		return p
	}
	start, end := nodeAt(p, l[0]), nodeAt(p, l[len(l)-1])
	if out, _, e := edit.Add(p, start, end, l, m.r.Intn(2) == 0); e == api.OK {
		return out
	}
	return p
}

func nodeAt(p api.Plan, q api.P) int {
	for _, n := range p.Nodes {
		if n.P == q {
			return n.ID
		}
	}
	return 0
}

func edge(p api.Plan, id int) (api.Edge, bool) {
	for _, e := range p.Edges {
		if e.ID == id {
			return e, true
		}
	}
	return api.Edge{}, false
}

// cut: what of a line is ahead of q, and how many of its points; false, if q isn't between its ends. A point of it counts ahead of what is between two.
func cut(l []api.P, q api.P) (int, bool) {
	if len(l) == 0 || l[0] == q || l[len(l)-1] == q {
		return 0, false
	}
	if i := slices.Index(l, q); i > 0 {
		return i, true
	}
	for i := range l[1:] {
		a, b := l[i], l[i+1]
		dx, dy, ex, ey := b.X-a.X, b.Y-a.Y, q.X-a.X, q.Y-a.Y
		if dx*ey == dy*ex && dx*ex+dy*ey > 0 && ex*ex+ey*ey < dx*dx+dy*dy {
			return i + 1, true
		}
	}
	return 0, false
}

func unusedByWords(used func(int) bool) int {
	n := 1
	for used(n) {
		n++
	}
	return n
}

// splitByWords: what Split should tell.
func splitByWords(p api.Plan, id int, q api.P, fresh bool) told {
	e, ok := edge(p, id)
	if !ok {
		return refused(api.ErrEdge)
	}
	i, ok := cut(e.Line, q)
	if !ok {
		return refused(api.ErrPoint)
	}
	if len(p.Nodes) > 199 || len(p.Edges) > 299 {
		return refused(api.ErrMany)
	}
	n := unusedByWords(func(id int) bool {
		return slices.ContainsFunc(p.Nodes, func(n api.Node) bool { return n.ID == id })
	})
	one := unusedByWords(func(id int) bool { _, ok := edge(p, id); return ok })
	two := unusedByWords(func(id int) bool { _, ok := edge(p, id); return ok || id == one })
	if !fresh {
		one, two = id, one
	}
	a := api.Edge{ID: one, Start: e.Start, End: n, Line: append(slices.Clone(e.Line[:i]), q), Left: e.Left, Right: e.Right}
	b := api.Edge{ID: two, Start: n, End: e.End, Line: slices.Insert(slices.Clone(e.Line[i:]), 0, q), Left: e.Left, Right: e.Right}
	if e.Line[i] == q {
		b.Line = b.Line[1:]
	}
	return told{changed(p, []int{id}, nil, []api.Edge{a, b}, []api.Node{{ID: n, P: q, Face: -1}}), n, two, api.OK}
}

// commonByWords: what Common should tell: by points, how often a line begins or ends there.
func commonByWords(p api.Plan, a, b int) int {
	e, isA := edge(p, a)
	f, isB := edge(p, b)
	if !isA || !isB || a == b || e.Line[0] == e.Line[len(e.Line)-1] || f.Line[0] == f.Line[len(f.Line)-1] {
		return 0
	}
	ends := map[api.P]int{}
	for _, g := range p.Edges {
		ends[g.Line[0]]++
		ends[g.Line[len(g.Line)-1]]++
	}
	for _, q := range []api.P{e.Line[len(e.Line)-1], e.Line[0]} {
		if (f.Line[0] == q || f.Line[len(f.Line)-1] == q) && ends[q] == 2 {
			return nodeAt(p, q)
		}
	}
	return 0
}

// healByWords: what Heal should tell.
func healByWords(p api.Plan, a, b int, fresh bool) told {
	e, isA := edge(p, a)
	f, isB := edge(p, b)
	if !isA || !isB {
		return refused(api.ErrEdge)
	}
	n := commonByWords(p, a, b)
	if n == 0 {
		return refused(api.ErrHeal)
	}
	if len(e.Line)+len(f.Line) > 65 {
		return refused(api.ErrLine)
	}
	one := e
	other := slices.Clone(f.Line)
	if e.End == n {
		if f.End == n {
			slices.Reverse(other)
		}
		one.Line = append(slices.Clone(e.Line), other[1:]...)
	} else {
		if f.Start == n {
			slices.Reverse(other)
		}
		one.Line = append(other, e.Line[1:]...)
	}
	one.Start, one.End = nodeAt(p, one.Line[0]), nodeAt(p, one.Line[len(one.Line)-1])
	if fresh {
		one.ID = unusedByWords(func(id int) bool { _, ok := edge(p, id); return ok })
	}
	return told{changed(p, []int{a, b}, []int{n}, []api.Edge{one}, nil), one.ID, 0, api.OK}
}

// pick: an edge's ID, mostly one that there is.
func pick(r *rand.Rand, p api.Plan) int {
	if len(p.Edges) == 0 || r.Intn(30) == 0 {
		return r.Intn(9) - 3
	}
	return p.Edges[r.Intn(len(p.Edges))].ID
}

// spot: a point on the edge or near it: one of its own, one between two of them.
func spot(r *rand.Rand, p api.Plan, id int) api.P {
	e, ok := edge(p, id)
	if !ok {
		return at(r.Int63n(20), r.Int63n(20))
	}
	i := r.Intn(len(e.Line) - 1)
	a, b := e.Line[i], e.Line[i+1]
	q := a
	if n := steps(a, b); r.Intn(4) > 0 {
		k := r.Int63n(n + 1)
		q = at(a.X+(b.X-a.X)/n*k, a.Y+(b.Y-a.Y)/n*k)
	}
	if r.Intn(12) == 0 {
		q.X += r.Int63n(3) - 1
	}
	return q
}

// steps: into how many like ones the way from a to b falls.
func steps(a, b api.P) int64 {
	m, n := max(a.X-b.X, b.X-a.X), max(a.Y-b.Y, b.Y-a.Y)
	for n > 0 {
		m, n = n, m%n
	}
	return m
}

// pair: the IDs of two edges, mostly of such that end at one node.
func pair(r *rand.Rand, p api.Plan) (int, int) {
	a, b := pick(r, p), pick(r, p)
	for range 400 {
		e, _ := edge(p, a)
		f, _ := edge(p, b)
		if a != b && (e.Start == f.Start || e.Start == f.End || e.End == f.Start || e.End == f.End) || r.Intn(300) == 0 {
			break
		}
		b = pick(r, p)
	}
	return a, b
}

// tally counts what was told.
type tally struct {
	splits, heals map[api.Errno]int
	fresh         map[bool]int
	rounds        int // edges that were healed to a closed one
}

// ask: a Split or a Heal of the plan, and what it should tell.
func (k *tally) ask(t *testing.T, r *rand.Rand, p api.Plan) told {
	fresh := r.Intn(2) == 0
	if r.Intn(5) < 2 {
		id := pick(r, p)
		q := spot(r, p, id)
		want := splitByWords(p, id, q, fresh)
		hold(t, []any{"split", p, id, q, fresh}, split(p, id, q, fresh), want)
		k.splits[want.e]++
		return want
	}
	a, b := pair(r, p)
	want := healByWords(p, a, b, fresh)
	hold(t, []any{"heal", p, a, b, fresh}, healed(p, a, b, fresh), want)
	if n := heal.Common(p, a, b); n != commonByWords(p, a, b) {
		t.Error("common", p, a, b, n)
	}
	if want.e == api.OK {
		k.fresh[fresh]++
		if e, _ := edge(want.p, want.n); e.Start == e.End {
			k.rounds++
		}
	}
	k.heals[want.e]++
	return want
}

// Promises 19.1 to 19.3 (W3, W4, W5, W7): edges fall in two and are made one, as the words have it, between other edits; what was sound stays so, with the areas that it had.
func TestWalks(t *testing.T) {
	r := noise()
	k := tally{splits: map[api.Errno]int{}, heals: map[api.Errno]int{}, fresh: map[bool]int{}}
	for i := range 150 {
		m := mesh{r, leads()[i%len(leads())]}
		p := m.plan()
		for range 60 {
			switch r.Intn(8) {
			case 0:
				p = m.grown(p)
			case 1:
				if out, _, e := edit.Rem(p, pick(r, p), r.Intn(2) == 0); e == api.OK {
					p = out
				}
			}
			before := copyOf(p)
			want := k.ask(t, r, p)
			if !alike(p, before) {
				t.Error("what was handed in has changed")
			}
			if want.e == api.OK {
				was, _ := valid.Area(p)
				p = want.p
				if is, _ := valid.Area(p); is != was {
					t.Error("other areas", before)
				}
			}
			if t.Failed() {
				t.Fatal(before)
			}
		}
	}
	if min(k.splits[api.OK], k.splits[api.ErrEdge], k.splits[api.ErrPoint], k.heals[api.OK], k.heals[api.ErrEdge], k.heals[api.ErrHeal], k.fresh[true], k.fresh[false], k.rounds) < 20 {
		t.Error("too few of a kind", k)
	}
	t.Log(k)
}

// Promise 19.3: edges fall into all their parts, and are made whole again in any order, as they were.
func TestAllApart(t *testing.T) {
	r := noise()
	for i := range 60 {
		m := mesh{r, leads()[i%len(leads())]}
		p := m.plan()
		was := map[int][]int{} // by an edge's ID the IDs of its parts, one behind the other
		out := p
		for _, e := range p.Edges {
			was[e.ID] = []int{e.ID}
			for _, q := range e.Line[1 : len(e.Line)-1] {
				got := split(out, was[e.ID][len(was[e.ID])-1], q, false)
				if got.e != api.OK {
					t.Fatal(got.e)
				}
				out, was[e.ID] = got.p, append(was[e.ID], got.second)
			}
		}
		sound(t, "apart", out)
		for _, k := range r.Perm(len(p.Edges)) {
			for ids := was[p.Edges[k].ID]; len(ids) > 1; {
				j := r.Intn(len(ids) - 1)
				got := healed(out, ids[j], ids[j+1], false)
				if got.e != api.OK || got.n != ids[j] {
					t.Fatal(got)
				}
				out, ids = got.p, slices.Delete(ids, j+1, j+2)
			}
		}
		if !alike(out, p) {
			t.Fatal("otherwise than it was", p, out)
		}
	}
}

// Promises 19.1 to 19.3: a plan as large as they may be is answered too.
func TestLargest(t *testing.T) {
	p := api.Plan{Nodes: []api.Node{{ID: 1, P: at(0, 0), Face: -1}, {ID: 2, P: at(700000, 0), Face: -1}}}
	const last = api.MaxEdges - 1
	for i := range last { // one above the other, up and down; what is below an edge is at its right
		l := of(0, 0)
		for k := range int64(api.MaxVerts - 2) {
			l = append(l, at(10+10000*k, k%2*100000+int64(4*i)+1))
		}
		p.Edges = append(p.Edges, api.Edge{ID: i + 1, Start: 1, End: 2, Line: append(l, at(700000, 0)), Left: (i + 1) % last, Right: i})
	}
	for i := range api.MaxNodes - 3 { // each between two edges, above a bend
		p.Nodes = append(p.Nodes, api.Node{ID: i + 3, P: at(300010, int64(4*i)+3), Face: i + 1})
	}
	sound(t, "the test's own plan", p)
	for _, id := range []int{1, 150, last} {
		q := p.Edges[id-1].Line[40]
		two, want := split(p, id, q, false), splitByWords(p, id, q, false)
		if two.e != api.OK || two.n != api.MaxNodes || two.second != api.MaxEdges || !alike(two.p, want.p) {
			t.Error(id, two.n, two.second, two.e)
		}
		if e := valid.Shape(two.p); e != api.OK {
			t.Error(id, e)
		}
		hold(t, id, split(two.p, 2, p.Edges[1].Line[5], false), refused(api.ErrMany))
		hold(t, id, healed(two.p, id, id%last+1, false), refused(api.ErrHeal))
		if back := healed(two.p, id, api.MaxEdges, false); back.e != api.OK || back.n != id || !alike(back.p, p) {
			t.Error(id, "came back otherwise", back.n, back.e)
		}
	}
}

// roomy: the same plan, with lists that have room behind them, filled.
func roomy(p api.Plan) api.Plan {
	p = copyOf(p)
	p.Nodes = append(p.Nodes, api.Node{ID: 77})[:len(p.Nodes)]
	p.Edges = append(p.Edges, api.Edge{ID: 77})[:len(p.Edges)]
	for i, e := range p.Edges {
		p.Edges[i].Line = append(e.Line, at(7, 7))[:len(e.Line)]
	}
	return p
}

// whole: the plan with the room behind its lists.
func whole(p api.Plan) api.Plan {
	p.Nodes, p.Edges = p.Nodes[:cap(p.Nodes)], slices.Clone(p.Edges[:cap(p.Edges)])
	for i, e := range p.Edges {
		p.Edges[i].Line = e.Line[:cap(e.Line)]
	}
	return p
}

// smear writes over all lists of a plan, and over all of their room.
func smear(p api.Plan) {
	for _, e := range p.Edges[:cap(p.Edges)] {
		clear(e.Line[:cap(e.Line)])
	}
	clear(p.Nodes[:cap(p.Nodes)])
	clear(p.Edges[:cap(p.Edges)])
}

// Rule 3, promise 19.3: what is handed in stays as it is, and the room behind its lists; what is answered is new memory, its room too, no two lists of it the same.
func TestMemory(t *testing.T) {
	type edit func(p api.Plan) told
	splits := func(id int, q api.P, fresh bool) edit {
		return func(p api.Plan) told { return split(p, id, q, fresh) }
	}
	heals := func(a, b int, fresh bool) edit {
		return func(p api.Plan) told { return healed(p, a, b, fresh) }
	}
	for _, c := range []struct {
		p   api.Plan
		do  edit
		bad bool
	}{
		{croft(), splits(1, at(20, 0), false), false}, {croft(), splits(1, at(19, 0), true), false}, {croft(), splits(9, at(13, 6), false), false}, {croft(), splits(9, at(14, 8), true), false}, {croft(), splits(1, at(0, 0), true), true}, {croft(), heals(1, 4, false), true},
		{bow(false, false), heals(3, 6, false), false}, {bow(false, true), heals(3, 6, true), false}, {bow(true, false), heals(3, 6, false), false}, {bow(true, true), heals(6, 3, true), false}, {lens(true, false), heals(1, 2, true), false}, {lens(true, true), heals(2, 1, false), false}, {bowl(3), heals(3, 1, false), false},
	} {
		p := roomy(c.p)
		before := copyOf(whole(p))
		got := c.do(p)
		if (got.e != api.OK) != c.bad {
			t.Error(c, got.e)
		}
		lists := copyOf(got.p).Edges
		for i, e := range got.p.Edges {
			clear(e.Line[:cap(e.Line)])
			for k, f := range got.p.Edges {
				if k > i && !slices.Equal(f.Line, lists[k].Line) {
					t.Error("two lists of one answer share memory", i, k)
				}
			}
		}
		smear(got.p)
		if !reflect.DeepEqual(whole(p), before) {
			t.Error("what was handed in has changed", c)
		}
	}
}

// raw: a plan in which nothing fits.
func raw(r *rand.Rand, nodes, edges int) api.Plan {
	odd := []int{1, 2, 3, 4, 5, 6, 0, -1, -2, -3, api.MaxID, api.MaxID + 1, math.MaxInt, math.MinInt, math.MinInt + 1}
	pick := func() int { return odd[r.Intn(len(odd))] }
	point := func() api.P {
		if r.Intn(9) == 0 {
			return at(int64(pick()), int64(pick()))
		}
		return at(r.Int63n(7), r.Int63n(7))
	}
	var p api.Plan
	for range nodes {
		p.Nodes = append(p.Nodes, api.Node{ID: pick(), P: point(), Face: pick()})
	}
	for range edges {
		e := api.Edge{ID: pick(), Start: pick(), End: pick(), Left: pick(), Right: pick()}
		for range r.Intn(6) {
			e.Line = append(e.Line, point())
		}
		if r.Intn(300) == 0 {
			e.Line = make([]api.P, 70)
		}
		p.Edges = append(p.Edges, e)
	}
	return p
}

// Promise 19.3 (W9, W11): of plans in which nothing fits every call is answered, and they stay as they are.
func TestRaw(t *testing.T) {
	r := noise()
	errs := map[api.Errno]int{}
	for i := range 3000 {
		p := raw(r, r.Intn(7), r.Intn(9))
		if i%1000 == 0 {
			p = raw(r, 300, 400)
		}
		given := copyOf(p)
		var all []told
		for _, e := range append(p.Edges, api.Edge{ID: 99}) {
			f := e
			if len(p.Edges) > 0 {
				f = p.Edges[r.Intn(len(p.Edges))]
			}
			q := at(r.Int63n(7), r.Int63n(7))
			if len(e.Line) > 2 {
				q = e.Line[1]
			}
			fresh := r.Intn(2) == 0
			one := healed(given, e.ID, f.ID, fresh)
			if n := heal.Common(given, e.ID, f.ID); (n != 0) != (one.e == api.OK || one.e == api.ErrLine) {
				t.Error("common", n, one)
			}
			all = append(all, split(given, e.ID, q, fresh), one)
		}
		for _, c := range all {
			errs[c.e]++
			if c.e != api.OK && (c.n != 0 || c.second != 0 || len(c.p.Nodes)+len(c.p.Edges) > 0) {
				t.Error("beside an error", c)
			}
		}
		if !alike(given, p) {
			t.Fatal("what was handed in has changed", p, given)
		}
	}
	for _, e := range []api.Errno{api.OK, api.ErrEdge, api.ErrPoint, api.ErrHeal, api.ErrLine, api.ErrMany} {
		if errs[e] == 0 {
			t.Error("none of a kind", e, errs)
		}
	}
}
