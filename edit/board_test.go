package edit_test

import (
	"math/rand"
	"slices"

	"terrier/api"
)

// The oracle: plans whose lines go along X or Y, from 0 to size, are laid on a board of the points, of the steps between them and of the cells between these. What hangs together on it is found by walking from place to place: without rings, rays or turns.

// size: how wide and high a plan is.
const size = 9

// side of a board: each point and each gap, and a rim.
const side = 2*size + 3

// place is where on the board: a point at odd X and Y, a cell at even ones, else a step.
type place struct{ x, y int }

func placeOf(q api.P) place { return place{int(2*q.X) + 1, int(2*q.Y) + 1} }

func (a place) by(dx, dy int) place { return place{a.x + dx, a.y + dy} }

// beside: the four places that touch a.
func (a place) beside() []place { return []place{a.by(1, 0), a.by(0, 1), a.by(-1, 0), a.by(0, -1)} }

func (a place) onBoard() bool { return a.x >= 0 && a.y >= 0 && a.x < side && a.y < side }

// trail: the points of a line and its steps, one behind the other; nil, if it leaves the board or goes aslant.
func trail(l []api.P) []place {
	var t []place
	for _, q := range l {
		to := placeOf(q)
		if !to.onBoard() || len(t) > 0 && t[len(t)-1].x != to.x && t[len(t)-1].y != to.y {
			return nil
		}
		for len(t) > 0 && t[len(t)-1] != to {
			last := t[len(t)-1]
			t = append(t, last.by(sign(to.x-last.x), sign(to.y-last.y)))
		}
		if len(t) == 0 {
			t = append(t, to)
		}
	}
	return t
}

func sign(n int) int {
	return max(-1, min(1, n))
}

// board: by place, whether a node or an edge is there, and what hangs together.
type board struct {
	taken [side][side]bool
	lot   [side][side]int // of free places, from 1 on
}

func boardOf(p api.Plan) *board {
	b := &board{}
	for _, n := range p.Nodes {
		b.take(placeOf(n.P))
	}
	for _, e := range p.Edges {
		b.take(trail(e.Line)...)
	}
	lots := 0
	for x := range side {
		for y := range side {
			if from := (place{x, y}); !b.taken[x][y] && b.lot[x][y] == 0 {
				lots++
				for a := range reach(from, func(a place) bool { return !b.taken[a.x][a.y] }) {
					b.lot[a.x][a.y] = lots
				}
			}
		}
	}
	return b
}

func (b *board) take(l ...place) {
	for _, a := range l {
		b.taken[a.x][a.y] = true
	}
}

// reach: all places that one comes to from there over places that are open.
func reach(from place, open func(place) bool) map[place]int {
	been := map[place]int{from: 0}
	for next := []place{from}; len(next) > 0; next = next[1:] {
		for _, a := range next[0].beside() {
			if _, ok := been[a]; !ok && a.onBoard() && open(a) {
				been[a] = 0
				next = append(next, a)
			}
		}
	}
	return been
}

// at the left of the first step of way, and where that step is.
func (b *board) left(p api.Plan, way int) (lot int, step place) {
	t := trail(points(p, way))
	dx, dy := t[1].x-t[0].x, t[1].y-t[0].y
	return b.lot[t[1].x-dy][t[1].y+dx], t[1]
}

// around: the lot in which a node lies that stands alone.
func (b *board) around(n api.Node) int {
	a := placeOf(n.P).by(1, 1)
	return b.lot[a.x][a.y]
}

// outerHas: is the step, at which lot lies, on the outline of lot, as seen from outside? One comes to it from the rim without going through lot.
func (b *board) outerHas(lot int, step place) bool {
	if lot == b.lot[0][0] {
		return false
	}
	_, ok := reach(place{0, 0}, func(a place) bool { return b.lot[a.x][a.y] != lot })[step]
	return ok
}

func edge(p api.Plan, id int) (api.Edge, bool) {
	for _, e := range p.Edges {
		if e.ID == id {
			return e, true
		}
	}
	return api.Edge{}, false
}

func node(p api.Plan, id int) (api.Node, bool) {
	for _, n := range p.Nodes {
		if n.ID == id {
			return n, true
		}
	}
	return api.Node{}, false
}

func points(p api.Plan, way int) []api.P {
	if e, ok := edge(p, way); ok {
		return e.Line
	}
	e, _ := edge(p, -way)
	l := slices.Clone(e.Line)
	slices.Reverse(l)
	return l
}

// ways: all ways of p.
func ways(p api.Plan) []int {
	var l []int
	for _, e := range p.Edges {
		l = append(l, e.ID, -e.ID)
	}
	return l
}

// facing: 0 to 3, as a line sets out to the right, up, left, down.
func facing(l []api.P) int {
	for i, d := range []api.P{at(1, 0), at(0, 1), at(-1, 0), at(0, -1)} {
		if sign(int(l[1].X-l[0].X)) == int(d.X) && sign(int(l[1].Y-l[0].Y)) == int(d.Y) {
			return i
		}
	}
	return -1
}

// cross: the ways that begin at q, by where they are facing; 0 where there is none.
func cross(p api.Plan, q api.P) [4]int {
	var c [4]int
	for _, way := range ways(p) {
		if l := points(p, way); l[0] == q {
			c[facing(l)] = way
		}
	}
	return c
}

// turned: do the ways round q follow each other otherwise in b than in a?
func turned(a, b api.Plan, q api.P) bool {
	alone := func(w int) bool { return w == 0 }
	before, now := cross(a, q), cross(b, q)
	l, m := slices.DeleteFunc(before[:], alone), slices.DeleteFunc(now[:], alone)
	for i := range m {
		if slices.Equal(l, slices.Concat(m[i:], m[:i])) {
			return false
		}
	}
	return true
}

// onward: the way on which one goes on that keeps the left hand at what is there.
func onward(p api.Plan, way int) int {
	l := points(p, -way)
	c := cross(p, l[0])
	for k := 1; k <= 4; k++ {
		if next := c[(facing(l)+4-k)%4]; next != 0 {
			return next
		}
	}
	return 0
}

// homes: of each ring (by its greatest way) and of each node alone (by its place in Nodes, less 10,000) the outer ring of the lot in which it lies; 0 outside. Of an outer ring that is itself.
func homes(p api.Plan) map[int]int {
	b := boardOf(p)
	outer, lots := map[int]int{}, map[int]int{}
	for _, way := range ways(p) {
		name, area := way, int64(0)
		for w, i := way, 0; i == 0 || w != way; w, i = onward(p, w), i+1 {
			name = max(name, w)
			l := points(p, w)
			for k := range l[1:] {
				area += l[k].X*l[k+1].Y - l[k].Y*l[k+1].X
			}
		}
		lots[name], _ = b.left(p, way)
		if area > 0 {
			outer[lots[name]] = name
		}
	}
	for i, n := range p.Nodes {
		if n.Face >= 0 {
			lots[i-10000] = b.around(n)
		}
	}
	for name, lot := range lots {
		lots[name] = outer[lot]
	}
	return lots
}

// simple: has the line steps that go to new points alone, but where it closes?
func simple(l []api.P) bool {
	t := trail(l)
	if len(l) < 2 || len(l) > api.MaxVerts || t == nil {
		return false
	}
	for i := range l[1:] {
		if l[i] == l[i+1] {
			return false
		}
	}
	if t[0] == t[len(t)-1] && len(t) > 7 {
		t = t[1:]
	}
	seen := map[place]int{}
	for _, a := range t {
		seen[a]++
	}
	return len(seen) == len(t)
}

// fitsByWords: Add's and Change's errors of a line, from ErrLine to ErrCross; rest is the plan without the edge.
func fitsByWords(rest api.Plan, e api.Edge) api.Errno {
	if !simple(e.Line) {
		return api.ErrLine
	}
	start, _ := node(rest, e.Start)
	end, _ := node(rest, e.End)
	if e.Line[0] != start.P || e.Line[len(e.Line)-1] != end.P {
		return api.ErrEnds
	}
	b, t := boardOf(rest), trail(e.Line)
	for _, a := range t[1 : len(t)-1] {
		if b.taken[a.x][a.y] {
			return api.ErrCross
		}
	}
	return api.OK
}

func unusedByWords(used func(int) bool) int {
	n := 1
	for used(n) {
		n++
	}
	return n
}

// faceUsed: does the face stand in p?
func faceUsed(p api.Plan, f int) bool {
	return slices.ContainsFunc(p.Nodes, func(n api.Node) bool { return n.Face == f }) || slices.ContainsFunc(p.Edges, func(e api.Edge) bool { return e.Left == f || e.Right == f })
}

// recolored: the plan, where what lies in one of the lots has the face of it.
func recolored(p api.Plan, lots map[int]int) api.Plan {
	b := boardOf(p)
	for i, e := range p.Edges {
		left, _ := b.left(p, e.ID)
		right, _ := b.left(p, -e.ID)
		if f, ok := lots[left]; ok {
			p.Edges[i].Left = f
		}
		if f, ok := lots[right]; ok {
			p.Edges[i].Right = f
		}
	}
	for i, n := range p.Nodes {
		alone := !slices.ContainsFunc(p.Edges, func(e api.Edge) bool { return e.Start == n.ID || e.End == n.ID })
		if f, ok := lots[b.around(n)]; ok && alone {
			p.Nodes[i].Face = f
		} else if !alone {
			p.Nodes[i].Face = -1
		}
	}
	return p
}

// faceOf: the face of a lot of the plan; that of the rim is 0.
func faceOf(p api.Plan, b *board, lot int) int {
	for _, e := range p.Edges {
		if left, _ := b.left(p, e.ID); left == lot {
			return e.Left
		}
		if right, _ := b.left(p, -e.ID); right == lot {
			return e.Right
		}
	}
	return 0
}

// split: what an addition was: the edge parts nothing; the left half has it on its outer ring alone, the right one alone, both.
const (
	joins = iota
	leftOuter
	rightOuter
	bothOuter
	outsideParted // added to these, if the face is 0
)

// addByWords: what Add should tell, and what it is.
func addByWords(p api.Plan, start, end int, l []api.P, fresh bool) (want told, kind int) {
	_, starts := node(p, start)
	_, ends := node(p, end)
	if !starts || !ends {
		return refused(api.ErrNode), 0
	}
	e := api.Edge{Start: start, End: end, Line: l}
	if no := fitsByWords(p, e); no != api.OK {
		return refused(no), 0
	}
	e.ID = unusedByWords(func(id int) bool { _, ok := edge(p, id); return ok })
	before := boardOf(p)
	t := trail(l)
	f := faceOf(p, before, before.lot[t[1].x][t[1].y])
	out := copyOf(p)
	out.Edges = append(out.Edges, e)
	slices.SortFunc(out.Edges, func(a, b api.Edge) int { return a.ID - b.ID })
	now := boardOf(out)
	left, step := now.left(out, e.ID)
	right, _ := now.left(out, -e.ID)
	if left == right {
		return told{recolored(out, map[int]int{left: f}), e.ID, api.OK}, joins
	}
	one := unusedByWords(func(n int) bool { return faceUsed(p, n) })
	two := unusedByWords(func(n int) bool { return n == one || faceUsed(p, n) })
	onLeft, onRight := now.outerHas(left, step), now.outerHas(right, now.stepOf(out, -e.ID))
	faces := map[int]int{left: one, right: f}
	kind = bothOuter
	switch {
	case onRight && !onLeft:
		faces, kind = map[int]int{left: f, right: one}, rightOuter
	case onLeft && !onRight:
		kind = leftOuter
	}
	if fresh && f != 0 {
		faces = map[int]int{left: one, right: two}
	}
	if f == 0 {
		kind += outsideParted
	}
	return told{recolored(out, faces), e.ID, api.OK}, kind
}

func (b *board) stepOf(p api.Plan, way int) place {
	_, step := b.left(p, way)
	return step
}

// remByWords: what Rem should tell, and whether it unites faces.
func remByWords(p api.Plan, id int, fresh bool) (want told, unites bool) {
	e, ok := edge(p, id)
	if !ok {
		return refused(api.ErrEdge), false
	}
	f := min(e.Left, e.Right)
	if unites = e.Left != e.Right; unites && fresh && f != 0 {
		f = unusedByWords(func(n int) bool { return faceUsed(p, n) })
	}
	out := copyOf(p)
	out.Edges = slices.DeleteFunc(out.Edges, func(e api.Edge) bool { return e.ID == id })
	step := trail(e.Line)[1]
	lot := boardOf(out).lot[step.x][step.y]
	return told{recolored(out, map[int]int{lot: f}), f, api.OK}, unites
}

// changeByWords: what Change should tell.
func changeByWords(p api.Plan, id int, l []api.P) told {
	e, ok := edge(p, id)
	if !ok {
		return refused(api.ErrEdge)
	}
	rest, out := copyOf(p), copyOf(p)
	rest.Edges = slices.DeleteFunc(rest.Edges, func(e api.Edge) bool { return e.ID == id })
	old := e.Line
	e.Line = l
	if no := fitsByWords(rest, e); no != api.OK {
		return refused(no)
	}
	out.Edges[slices.IndexFunc(out.Edges, func(e api.Edge) bool { return e.ID == id })].Line = l
	if turned(p, out, old[0]) || turned(p, out, old[len(old)-1]) {
		return refused(api.ErrTurn)
	}
	was, is := homes(p), homes(out)
	for name, home := range was {
		if is[name] != home {
			return refused(api.ErrSwept)
		}
	}
	return told{out, 0, api.OK}
}

// wander: a line from a to b that mostly avoids what is taken, with some needless points in it; nil, if there is none.
func wander(r *rand.Rand, b *board, from, to api.P) []api.P {
	cost := map[place]int{}
	blind := r.Intn(12) == 0
	twist := 1 + r.Intn(12)
	weight := func(a place) int {
		if _, ok := cost[a]; !ok {
			cost[a] = 1 + r.Intn(twist)
		}
		return cost[a]
	}
	start, goal := placeOf(from), placeOf(to)
	if start == goal { // off, and back another way
		d := start.beside()[r.Intn(4)]
		mid := d.by(d.x-start.x, d.y-start.y)
		if !mid.onBoard() || !blind && (b.taken[d.x][d.y] || b.taken[mid.x][mid.y]) {
			return nil
		}
		shut := *b
		shut.take(d)
		back := cheapest(&shut, blind, weight, mid, goal)
		if back == nil {
			return nil
		}
		return corners(r, append([]place{start}, back...))
	}
	return corners(r, cheapest(b, blind, weight, start, goal))
}

// cheapest: points from one to the other, whose weights are the least.
func cheapest(b *board, blind bool, weight func(place) int, from, to place) []place {
	best, by := map[place]int{from: 0}, map[place]place{}
	done := map[place]int{}
	for {
		var at place
		least := -1
		for x := 1; x < side; x += 2 {
			for y := 1; y < side; y += 2 {
				a := place{x, y}
				if n, ok := best[a]; ok && done[a] == 0 && (least < 0 || n < least) {
					at, least = a, n
				}
			}
		}
		if least < 0 {
			return nil
		}
		if at == to {
			break
		}
		done[at] = 1
		for _, d := range at.beside() {
			a := d.by(d.x-at.x, d.y-at.y)
			if !a.onBoard() || !blind && (b.taken[d.x][d.y] || b.taken[a.x][a.y] && a != to) {
				continue
			}
			if n, ok := best[a]; !ok || least+weight(a) < n {
				best[a], by[a] = least+weight(a), at
			}
		}
	}
	l := []place{to}
	for l[0] != from {
		l = slices.Insert(l, 0, by[l[0]])
	}
	return l
}

// corners: the line through l, mostly without the points in which it goes straight on.
func corners(r *rand.Rand, l []place) []api.P {
	var line []api.P
	for i, a := range l {
		straight := i > 0 && i < len(l)-1 && l[i-1].x+l[i+1].x == 2*a.x && l[i-1].y+l[i+1].y == 2*a.y
		if !straight || r.Intn(8) == 0 {
			line = append(line, at(int64(a.x/2), int64(a.y/2)))
		}
	}
	return line
}
