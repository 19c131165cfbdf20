package valid_test

import (
	"cmp"
	"math"
	"math/rand"
	"slices"
	"testing"

	"terrier/api"
	"terrier/face"
	"terrier/line"
	"terrier/valid"
)

// cell: how long a board's squares are.
const cell = 12

// board is a sound plan in the making: squares, of which some have lines between them and things in them. What lies at a line's sides, and in what a node lies, is known by how it is put together; no ring and no ray is asked.
type board struct {
	r     *rand.Rand
	n     int
	with  []int   // by patch: one with which it makes a region; patch 0 is all around
	area  []int64 // by patch but 0: twice its area
	ends  []api.P // of lines, each once
	lines []border
	alone []lone
}

// border is a line with the patches at its sides.
type border struct {
	l           []api.P
	left, right int
}

// lone is a point with the patch in which it lies.
type lone struct {
	p     api.P
	patch int
}

// lay: a board of n by n squares; a line is between two of them with that chance.
func lay(r *rand.Rand, n int, keep float64) *board {
	b := &board{r: r, n: n, with: []int{0}, area: []int64{0}}
	for range n * n {
		b.patch(2 * cell * cell)
	}
	for y := range n + 1 {
		for x := range n + 1 {
			b.side(keep, x, y, x+1, y, b.square(x, y), b.square(x, y-1))
			b.side(keep, x, y, x, y+1, b.square(x-1, y), b.square(x, y))
		}
	}
	for y := -1; y <= n; y++ {
		for x := -1; x <= n; x++ {
			b.furnish(x, y)
		}
	}
	return b
}

// patch: a new one.
func (b *board) patch(area int64) int {
	b.with, b.area = append(b.with, len(b.with)), append(b.area, area)
	return len(b.with) - 1
}

// square: the patch of the one at that place; 0 beside the board.
func (b *board) square(x, y int) int {
	if min(x, y) < 0 || max(x, y) >= b.n {
		return 0
	}
	return 1 + y*b.n + x
}

// of: the patch that stands for the region of this one; 0, if that is the first.
func (b *board) of(patch int) int {
	for b.with[patch] != patch {
		patch = b.with[patch]
	}
	return patch
}

func (b *board) unite(v, w int) {
	v, w = b.of(v), b.of(w)
	b.with[max(v, w)] = min(v, w)
}

// side: a line between two squares, or none.
func (b *board) side(keep float64, x, y, x2, y2, left, right int) {
	if left == right {
		return // beside the board
	}
	if b.r.Float64() >= keep || !b.room(2, 1) {
		b.unite(left, right)
		return
	}
	from, to := at(int64(x)*cell, int64(y)*cell), at(int64(x2)*cell, int64(y2)*cell)
	l := []api.P{from}
	for i := range int64(b.r.Intn(4)) { // bends, each by one to a side
		away := b.r.Int63n(3) - 1
		if x2 > x {
			l = append(l, at(from.X+3+3*i, from.Y+away))
		} else {
			l = append(l, at(from.X+away, from.Y+3+3*i))
		}
	}
	b.draw(append(l, to), left, right)
}

// room: is there room for that many more nodes and edges?
func (b *board) room(nodes, edges int) bool {
	return len(b.ends)+len(b.alone)+nodes <= api.MaxNodes && len(b.lines)+edges <= api.MaxEdges
}

// draw adds a line, either way round. What it goes round, with the straight way back, is its left side's.
func (b *board) draw(l []api.P, left, right int) {
	var sum int64
	for i, p := range l {
		q := l[(i+1)%len(l)]
		sum += p.X*q.Y - p.Y*q.X
	}
	b.area[left] += sum
	b.area[right] -= sum
	for _, p := range []api.P{l[0], l[len(l)-1]} {
		if !slices.Contains(b.ends, p) {
			b.ends = append(b.ends, p)
		}
	}
	if b.r.Intn(2) == 0 {
		slices.Reverse(l)
		left, right = right, left
	}
	b.lines = append(b.lines, border{l, left, right})
}

// furnish puts something into a square, or nothing.
func (b *board) furnish(x, y int) {
	patch := b.square(x, y)
	move := func(n ...int64) []api.P {
		l := of(n...)
		for i, p := range l {
			l[i] = at(p.X+int64(x)*cell, p.Y+int64(y)*cell)
		}
		return l
	}
	corner := slices.Contains(b.ends, move(0, 0)[0])
	switch what := b.r.Intn(10); {
	case !b.room(4, 3):
	case what == 0: // a node
		b.alone = append(b.alone, lone{move(6, 6)[0], patch})
	case what == 1: // an isle, with a node in it and one beside it
		isle := b.patch(0)
		b.draw(move(4, 3, 9, 4, 6, 9, 4, 3), isle, patch)
		b.alone = append(b.alone, lone{move(6, 5)[0], isle}, lone{move(4, 8)[0], patch})
	case what == 2: // isles within each other, a node in each
		outer, inner := b.patch(0), b.patch(0)
		b.draw(move(2, 3, 10, 3, 10, 10, 3, 10, 2, 3), outer, patch)
		b.draw(move(8, 5, 8, 8, 5, 8, 8, 5), inner, outer)
		b.alone = append(b.alone, lone{move(9, 9)[0], outer}, lone{move(7, 7)[0], inner})
	case what == 3: // a fence of two edges
		b.draw(move(3, 3, 5, 8), patch, patch)
		b.draw(move(5, 8, 6, 4, 9, 9), patch, patch)
	case what == 4 && corner: // a path from a corner
		b.draw(move(5, 7, 4, 5, 0, 0), patch, patch)
	case what == 5 && corner: // a pond at a corner, one in it at the same corner, and a node
		outer, inner := b.patch(0), b.patch(0)
		b.draw(move(0, 0, 9, 4, 9, 9, 4, 9, 0, 0), outer, patch)
		b.draw(move(0, 0, 4, 3, 3, 4, 0, 0), inner, outer)
		b.alone = append(b.alone, lone{move(7, 7)[0], outer})
	}
}

// inside: twice the area of all regions but the first.
func (b *board) inside() int64 {
	var sum int64
	for patch, area := range b.area {
		if b.of(patch) != 0 {
			sum += area
		}
	}
	return sum
}

// plan: the nodes and lines in any order, and faces as they come.
func (b *board) plan() api.Plan {
	faces := map[int]int{0: 0}
	for i, f := range b.r.Perm(len(b.with)) {
		if i > 0 {
			faces[i] = 1 + f
		}
	}
	faces[1+b.r.Intn(len(b.with))] = api.MaxID
	var p api.Plan
	for _, q := range b.ends {
		p.Nodes = append(p.Nodes, api.Node{P: q, Face: -1})
	}
	for _, n := range b.alone {
		p.Nodes = append(p.Nodes, api.Node{P: n.p, Face: faces[b.of(n.patch)]})
	}
	b.r.Shuffle(len(p.Nodes), func(i, k int) { p.Nodes[i], p.Nodes[k] = p.Nodes[k], p.Nodes[i] })
	ids, last := map[api.P]int{}, 0
	for i := range p.Nodes {
		last += 1 + b.r.Intn(3)
		p.Nodes[i].ID, ids[p.Nodes[i].P] = last, last
	}
	for i, id := range b.r.Perm(len(b.lines)) {
		x := b.lines[i]
		p.Edges = append(p.Edges, api.Edge{ID: 1 + id + id/2, Start: ids[x.l[0]], End: ids[x.l[len(x.l)-1]], Line: slices.Clone(x.l), Left: faces[b.of(x.left)], Right: faces[b.of(x.right)]})
	}
	slices.SortFunc(p.Edges, func(a, b api.Edge) int { return cmp.Compare(a.ID, b.ID) })
	return p
}

// Promises 16.1 to 16.4 (W3, W4, W5): random plans that are sound by how they are put together, of all sizes.
func TestBoards(t *testing.T) {
	r := noise()
	var regions, holes, lone, most int
	for i := range 300 {
		b := lay(r, i%12, r.Float64())
		p := b.plan()
		hold(t, "a board", p, api.OK, api.OK)
		inside, outline := valid.Area(p)
		if want := b.inside(); !valid.Euler(p) || inside != want || outline != want {
			t.Error("a board: Euler", valid.Euler(p), "Area", inside, outline, want)
		}
		if t.Failed() {
			t.Fatal(p)
		}
		l := face.Regions(p)
		regions, lone, most = regions+len(l)-1, lone+len(b.alone), max(most, len(p.Edges))
		for _, x := range l[1:] {
			holes += len(x.Inner)
		}
	}
	if regions < 2000 || holes < 500 || lone < 1000 || most < 250 {
		t.Error("too few of a kind", regions, holes, lone, most)
	}
}

// Promises 16.1 to 16.3 (W1): a plan is as sound wherever it lies, however it is turned or drawn out, up to the grid's bounds.
func TestFar(t *testing.T) {
	r := noise()
	for i := range 60 {
		b := lay(r, 1+i%6, 0.4+0.6*r.Float64())
		p := b.plan()
		size := int64(b.n+1) * cell
		far := 2 * most / (3 * size)
		for k, c := range []struct {
			area int64 // by which it grows
			to   func(q api.P) api.P
		}{
			{1, func(q api.P) api.P { return at(-q.Y, q.X) }},
			{1, func(q api.P) api.P { return at(q.X+most-size, q.Y-most+cell) }},
			{far * far, func(q api.P) api.P { return at(most-far*(q.X+cell), most-far*(q.Y+cell)) }},
			{far, func(q api.P) api.P { return at(q.X*far-most/2, q.Y) }},
			{1, func(q api.P) api.P { return at(q.X-q.Y*(far/2), q.Y) }},
		} {
			x := copyOf(p)
			for n := range x.Nodes {
				x.Nodes[n].P = c.to(x.Nodes[n].P)
			}
			for _, e := range x.Edges {
				for n := range e.Line {
					e.Line[n] = c.to(e.Line[n])
				}
			}
			hold(t, k, x, api.OK, api.OK)
			inside, outline := valid.Area(x)
			if want := b.inside() * c.area; !valid.Euler(x) || inside != want || outline != want {
				t.Error(k, "Euler", valid.Euler(x), "Area", inside, outline, want)
			}
			if t.Failed() {
				t.Fatal(x)
			}
		}
	}
}

// shapeByWords: what Shape should tell, fault by fault.
func shapeByWords(p api.Plan) api.Errno {
	byID := map[int]api.P{}
	var lastNode, lastEdge int
	found := map[api.Errno]bool{}
	for _, n := range p.Nodes {
		found[api.ErrForm] = found[api.ErrForm] || n.ID <= lastNode || n.ID > api.MaxID || max(n.P.X, n.P.Y) > most || min(n.P.X, n.P.Y) < -most
		lastNode, byID[n.ID] = n.ID, n.P
		for _, m := range p.Nodes {
			found[api.ErrNode] = found[api.ErrNode] || n.ID != m.ID && n.P == m.P
		}
	}
	for i, e := range p.Edges {
		found[api.ErrForm] = found[api.ErrForm] || e.ID <= lastEdge || e.ID > api.MaxID
		lastEdge = e.ID
		if !line.Ok(e.Line) {
			found[api.ErrLine] = true
			continue
		}
		start, begins := byID[e.Start]
		end, stops := byID[e.End]
		found[api.ErrEnds] = found[api.ErrEnds] || !begins || !stops || start != e.Line[0] || end != e.Line[len(e.Line)-1]
		for k, f := range p.Edges {
			found[api.ErrCross] = found[api.ErrCross] || i != k && line.Ok(f.Line) && !line.Apart(e.Line, f.Line)
		}
		for _, n := range p.Nodes {
			found[api.ErrCross] = found[api.ErrCross] || line.At(e.Line, n.P) >= 0 && n.P != e.Line[0] && n.P != e.Line[len(e.Line)-1]
		}
	}
	found[api.ErrForm] = found[api.ErrForm] || len(p.Nodes) > 200 || len(p.Edges) > 300
	for _, e := range []api.Errno{api.ErrForm, api.ErrNode, api.ErrLine, api.ErrEnds, api.ErrCross} {
		if found[e] {
			return e
		}
	}
	return api.OK
}

// facesByWords: what Faces should tell of a sound plan; each way's region is asked of face.Of, each lone node's of face.At without it.
func facesByWords(p api.Plan) api.Errno {
	type said struct{ region, face int }
	var all []said
	ends := map[int]bool{}
	for _, e := range p.Edges {
		all = append(all, said{face.Of(p, e.ID), e.Left}, said{face.Of(p, -e.ID), e.Right})
		ends[e.Start], ends[e.End] = true, true
	}
	for i, n := range p.Nodes {
		if ends[n.ID] {
			if n.Face != -1 {
				return api.ErrFace
			}
			continue
		}
		rest := api.Plan{Nodes: slices.Delete(slices.Clone(p.Nodes), i, i+1), Edges: p.Edges}
		region, _ := face.At(rest, n.P)
		all = append(all, said{region, n.Face})
	}
	for _, a := range all {
		if a.face < 0 || a.face > api.MaxID || a.region == 0 && a.face != 0 {
			return api.ErrFace
		}
		for _, b := range all {
			if (a.region == b.region) != (a.face == b.face) {
				return api.ErrFace
			}
		}
	}
	return api.OK
}

// near: another number, mostly one that is not far.
func near(r *rand.Rand, n int) int {
	if r.Intn(12) == 0 {
		wild := []int{0, -1, api.MaxID, api.MaxID + 1, math.MaxInt, math.MinInt, most, most + 1, -most - 1}
		return wild[r.Intn(len(wild))]
	}
	return n + r.Intn(7) - 3
}

func nearPoint(r *rand.Rand, p api.P) api.P {
	return at(int64(near(r, int(p.X))), int64(near(r, int(p.Y))))
}

// hurt changes something of p, anywhere.
func hurt(r *rand.Rand, p *api.Plan) {
	if len(p.Nodes) == 0 || len(p.Edges) == 0 {
		return
	}
	n, e := &p.Nodes[r.Intn(len(p.Nodes))], &p.Edges[r.Intn(len(p.Edges))]
	other := p.Nodes[r.Intn(len(p.Nodes))]
	switch r.Intn(16) {
	case 0:
		n.ID = near(r, n.ID)
	case 1:
		n.P = nearPoint(r, n.P)
	case 2:
		n.P = other.P
	case 3:
		n.Face = near(r, n.Face)
	case 4:
		n.Face = other.Face
	case 5:
		e.ID = near(r, e.ID)
	case 6:
		e.Start = near(r, e.Start)
	case 7:
		e.End = other.ID
	case 8:
		i := r.Intn(len(e.Line))
		e.Line[i] = nearPoint(r, e.Line[i])
	case 9:
		e.Line = slices.Insert(e.Line, 1+r.Intn(len(e.Line)-1), nearPoint(r, other.P))
	case 10:
		e.Line = slices.Delete(e.Line, 0, 1)
	case 11:
		e.Left = near(r, e.Left)
	case 12:
		e.Left, e.Right = e.Right, e.Left
	case 13: // an edge with all that is told of it turned is as sound as it was
		slices.Reverse(e.Line)
		e.Start, e.End, e.Left, e.Right = e.End, e.Start, e.Right, e.Left
	case 14:
		i := r.Intn(len(p.Nodes))
		p.Nodes = slices.Delete(p.Nodes, i, i+1)
	case 15:
		i := r.Intn(len(p.Edges))
		p.Edges = slices.Delete(p.Edges, i, i+1)
	}
}

// Promises 16.1, 16.2, 16.4 (W9): plans with a hurt or two are told as the words have it, however they were hurt.
func TestHurt(t *testing.T) {
	r := noise()
	shapes, faces := map[api.Errno]int{}, map[api.Errno]int{}
	for i := range 2400 {
		p := lay(r, 1+i%3, 0.5+0.5*r.Float64()).plan()
		for range 1 + i%2 {
			hurt(r, &p)
		}
		shape := shapeByWords(p)
		all := shape
		if shape == api.OK {
			all = facesByWords(p)
			faces[all]++
		}
		shapes[shape]++
		hold(t, "hurt", p, shape, all)
		valid.Euler(p)
		inside, outline := valid.Area(p)
		if shape == api.OK && (!valid.Euler(p) || inside != outline) {
			t.Error("Euler", valid.Euler(p), "Area", inside, outline)
		}
		if t.Failed() {
			t.Fatal(p)
		}
	}
	for _, e := range []api.Errno{api.OK, api.ErrForm, api.ErrNode, api.ErrLine, api.ErrEnds, api.ErrCross} {
		if shapes[e] < 80 {
			t.Error("too few of a kind", e, shapes[e])
		}
	}
	if faces[api.OK] < 100 || faces[api.ErrFace] < 100 {
		t.Error("too few of a kind", faces)
	}
}

// raw: a plan in which nothing fits.
func raw(r *rand.Rand, nodes, edges int, ids []int) api.Plan {
	pick := func() int { return ids[r.Intn(len(ids))] }
	point := func() api.P { return nearPoint(r, at(r.Int63n(9), r.Int63n(9))) }
	var p api.Plan
	for range nodes {
		p.Nodes = append(p.Nodes, api.Node{ID: pick(), P: point(), Face: pick()})
	}
	for range edges {
		e := api.Edge{ID: pick(), Start: pick(), End: pick(), Left: pick(), Right: pick()}
		for range r.Intn(6) {
			e.Line = append(e.Line, point())
		}
		if len(e.Line) > 2 && r.Intn(2) == 0 {
			e.End, e.Line = e.Start, append(e.Line, e.Line[0])
		}
		p.Edges = append(p.Edges, e)
	}
	return p
}

// Promise 16.4 (W9, W11): of plans in which nothing fits every call is answered.
func TestRaw(t *testing.T) {
	r := noise()
	odd := []int{1, 2, 3, 4, 5, 6, 7, 8, 0, -1, -2, api.MaxID, api.MaxID + 1, math.MaxInt, math.MinInt, math.MinInt + 1}
	for i := range 2000 {
		p := raw(r, r.Intn(7), r.Intn(9), odd)
		if i%2 == 0 { // so that more than ErrForm is told
			for k := range p.Nodes {
				p.Nodes[k].ID, p.Nodes[k].P = k+1, at(int64(k), int64(k*k%5))
			}
			for k := range p.Edges {
				p.Edges[k].ID = k + 1
			}
		}
		want := shapeByWords(p)
		all := want
		if want == api.OK {
			all = facesByWords(p)
		}
		hold(t, "raw", p, want, all)
		valid.Euler(p)
		valid.Area(p)
	}
	for _, p := range []api.Plan{raw(r, api.MaxNodes, api.MaxEdges, odd), raw(r, 1500, 900, odd)} {
		hold(t, "much of it", p, api.ErrForm, api.ErrForm)
		valid.Euler(p)
		valid.Area(p)
	}
	long := make([]api.P, 200000)
	for i := range long {
		long[i] = at(int64(i), int64(i*i))
	}
	one := square()
	one.Edges[3].Line = long
	hold(t, "a line without an end", one, api.ErrLine, api.ErrLine)
	valid.Euler(one)
	valid.Area(one)
}
