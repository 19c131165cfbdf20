package turn_test

import (
	"math"
	"math/big"
	"math/rand"
	"slices"
	"testing"

	"terrier/api"
	"terrier/turn"
)

// most: the greatest part that a direction may have.
const most = 4194304

func at(x, y int64) api.P { return api.P{X: x, Y: y} }

func to(x, y int64) turn.Dir { return turn.Dir{X: x, Y: y} }

// noise is the same at each run, so that a failure comes again.
func noise() *rand.Rand { return rand.New(rand.NewSource(1)) }

// square: all directions (and the none) with parts from -n to n.
func square(n int64) []turn.Dir {
	var l []turn.Dir
	for x := -n; x <= n; x++ {
		for y := -n; y <= n; y++ {
			l = append(l, to(x, y))
		}
	}
	return l
}

// edges: directions with parts at the bounds, just beyond them and far beyond.
func edges() []turn.Dir {
	parts := []int64{0, 1, -1, 3, most - 1, most, most + 1, 1 - most, -most, -most - 1, 1 << 32, 1 << 62, math.MaxInt64, math.MinInt64}
	var l []turn.Dir
	for _, x := range parts {
		for _, y := range parts {
			l = append(l, to(x, y))
		}
	}
	return l
}

// some: a direction that is often small, often at a bound, at times none.
func some(r *rand.Rand) turn.Dir {
	switch r.Intn(4) {
	case 0:
		return edges()[r.Intn(len(edges()))]
	case 1:
		return to(r.Int63n(2*most+1)-most, r.Int63n(2*most+1)-most)
	default:
		return to(r.Int63n(7)-3, r.Int63n(7)-3)
	}
}

func isNone(d turn.Dir) bool {
	part := func(x int64) bool { return x >= -most && x <= most }
	return !part(d.X) || !part(d.Y) || d.X == 0 && d.Y == 0
}

// angle is told by a quarter of the circle, and how steep the direction is within it.
type angle struct {
	quarter int
	steep   *big.Rat
}

// angleOf turns the direction to the right by quarters until it is within the first one.
func angleOf(x, y int64) angle {
	quarter := 0
	for !(x > 0 && y >= 0) {
		x, y = y, -x
		quarter++
	}
	return angle{quarter, big.NewRat(y, x)}
}

func (a angle) cmp(b angle) int {
	switch {
	case a.quarter < b.quarter:
		return -1
	case a.quarter > b.quarter:
		return 1
	default:
		return a.steep.Cmp(b.steep)
	}
}

// wide: by which angle one turns to the left from a to d, below a whole round.
func wide(a, d turn.Dir) angle {
	return angleOf(a.X*d.X+a.Y*d.Y, a.X*d.Y-a.Y*d.X)
}

func (a angle) nought() bool { return a.cmp(angleOf(1, 0)) == 0 }

func wantCmp(a, b turn.Dir) int {
	switch {
	case isNone(a) && isNone(b):
		return 0
	case isNone(a):
		return 1
	case isNone(b):
		return -1
	default:
		return angleOf(a.X, a.Y).cmp(angleOf(b.X, b.Y))
	}
}

func wantBetween(a, b, d turn.Dir) bool {
	if isNone(a) || isNone(b) || isNone(d) {
		return false
	}
	toB, toD := wide(a, b), wide(a, d)
	return !toD.nought() && (toB.nought() || toD.cmp(toB) < 0)
}

// wantRound: of the places of another direction the first one with the least angle from place i's on, or the greatest.
func wantRound(l []turn.Dir, i, sign int) int {
	if i < 0 || i >= len(l) || isNone(l[i]) {
		return i
	}
	best := i
	for k, d := range l {
		if isNone(d) || wide(l[i], d).nought() {
			continue
		}
		if best == i || wide(l[i], d).cmp(wide(l[i], l[best]))*sign < 0 {
			best = k
		}
	}
	return best
}

// Promise 11.1: Of tells the direction from the first point to the second; of the same there is none.
func TestOf(t *testing.T) {
	const edge = api.MaxGrid
	for _, c := range []struct {
		a, b api.P
		d    turn.Dir
		ok   bool
	}{
		{at(0, 0), at(1, 0), to(1, 0), true},
		{at(1, 0), at(0, 0), to(-1, 0), true},
		{at(5, -2), at(3, 7), to(-2, 9), true},
		{at(5, 5), at(5, 5), to(0, 0), false},
		{at(-edge, edge), at(edge, -edge), to(2*edge, -2*edge), true},
		{at(edge, edge), at(-edge, -edge), to(-2*edge, -2*edge), true},
		// Beyond the grid: as the nearest point of it.
		{at(-edge-1, 0), at(edge+1, 0), to(2*edge, 0), true},
		{at(math.MinInt64, math.MaxInt64), at(math.MaxInt64, math.MinInt64), to(2*edge, -2*edge), true},
		{at(edge+1, 3), at(edge+9, 3), to(0, 0), false},
		{at(edge, math.MinInt64), at(math.MaxInt64, -edge), to(0, 0), false},
		{at(edge+5, 3), at(edge-1, 4), to(-1, 1), true},
	} {
		if d, ok := turn.Of(c.a, c.b); d != c.d || ok != c.ok {
			t.Errorf("Of(%v, %v) = %v, %v", c.a, c.b, d, ok)
		}
	}
}

// Promise 11.1: what Of tells of any two points is no none, but of the same.
func TestOfIsADirection(t *testing.T) {
	for _, a := range edges() {
		for _, b := range edges() {
			d, ok := turn.Of(at(a.X, a.Y), at(b.X, b.Y))
			if ok == (turn.Half(d) == -1) || !ok && d != to(0, 0) {
				t.Fatalf("Of(%v, %v) = %v, %v", a, b, d, ok)
			}
		}
	}
}

// Promise 11.1: Half is 0 above the line and to the right on it, 1 below and to the left, -1 of none.
func TestHalf(t *testing.T) {
	for _, c := range []struct {
		d    turn.Dir
		half int
	}{
		{to(1, 0), 0}, {to(7, 0), 0}, {to(5, 1), 0}, {to(0, 1), 0}, {to(-9, 1), 0},
		{to(-1, 0), 1}, {to(-7, 0), 1}, {to(-5, -1), 1}, {to(0, -1), 1}, {to(9, -1), 1},
		{to(0, 0), -1},
		{to(most, 0), 0}, {to(-most, 0), 1}, {to(0, most), 0}, {to(0, -most), 1}, {to(most, -most), 1},
		{to(most+1, 0), -1}, {to(-most-1, 0), -1}, {to(0, most+1), -1}, {to(0, -most-1), -1},
		{to(math.MinInt64, 1), -1}, {to(1, math.MinInt64), -1}, {to(math.MaxInt64, math.MinInt64), -1},
	} {
		if half := turn.Half(c.d); half != c.half {
			t.Errorf("Half(%v) = %d", c.d, half)
		}
	}
	for _, d := range edges() {
		if (turn.Half(d) == -1) != isNone(d) {
			t.Errorf("Half(%v) = %d", d, turn.Half(d))
		}
	}
}

// Promises 11.1, 11.2: Cmp goes by the exact angle; of none the last, and all of these alike.
func TestCmp(t *testing.T) {
	hold := func(l []turn.Dir) {
		for _, a := range l {
			for _, b := range l {
				if got, want := turn.Cmp(a, b), wantCmp(a, b); got != want {
					t.Fatalf("Cmp(%v, %v) = %d, not %d", a, b, got, want)
				}
			}
		}
	}
	hold(square(5))
	hold(edges())
	r := noise()
	for range 300 {
		hold([]turn.Dir{some(r), some(r), some(r), some(r), some(r)})
	}
}

// Promise 11.2: directions that only exact numbers tell from each other.
func TestCmpOfNearlyTheSame(t *testing.T) {
	for i, c := range [][2]turn.Dir{
		{to(most, most-2), to(most-1, most-2)},
		{to(most, most-1), to(most, most)},
		{to(most, 1), to(most-1, 1)},
		{to(most-1, most-2), to(most, most-1)},
		{to(-most, 1), to(-1, 0)},
		{to(-most, -most), to(1-most, -most)},
		{to(most-1, -1), to(most, -1)},
	} {
		if turn.Cmp(c[0], c[1]) != -1 || turn.Cmp(c[1], c[0]) != 1 {
			t.Error(i, turn.Cmp(c[0], c[1]), turn.Cmp(c[1], c[0]))
		}
	}
}

// Promise 11.1: the example of the chapter; like ones and none stay as they came.
func TestSort(t *testing.T) {
	for _, c := range []struct {
		l    []turn.Dir
		want []int
	}{
		{nil, nil},
		{[]turn.Dir{to(0, 0)}, []int{0}},
		{[]turn.Dir{to(0, 1), to(1, 0), to(-1, 0)}, []int{1, 0, 2}},
		{[]turn.Dir{to(3, 3), to(1, 1), to(2, 2)}, []int{0, 1, 2}},
		{[]turn.Dir{to(0, 0), to(most+1, 0), to(1, -1), to(math.MinInt64, 0), to(2, -2)}, []int{2, 4, 0, 1, 3}},
	} {
		if got := turn.Sort(c.l); !slices.Equal(got, c.want) {
			t.Errorf("Sort(%v) = %v", c.l, got)
		}
	}
}

// Promise 11.1: Sort of any list has each place once, by Cmp and then by the place.
func TestSortOfAny(t *testing.T) {
	r := noise()
	for n := range 200 {
		var l []turn.Dir
		for range n {
			l = append(l, some(r))
		}
		given := slices.Clone(l)
		order := turn.Sort(l)
		if len(order) != n || !slices.Equal(l, given) {
			t.Fatal(n, order)
		}
		for i := 1; i < n; i++ {
			c := wantCmp(l[order[i-1]], l[order[i]])
			if c > 0 || c == 0 && order[i-1] >= order[i] {
				t.Fatal(l, order)
			}
		}
	}
}

// Promise 11.1: Next and Prev go to the nearest direction that is another, of like ones to the first.
func TestNextAndPrev(t *testing.T) {
	star := []turn.Dir{to(1, 0), to(0, 1), to(-1, 0), to(0, -1)}
	like := []turn.Dir{to(0, 2), to(5, 0), to(0, 1), to(1, 0), to(0, -1), to(0, -3), to(0, 0)}
	same := []turn.Dir{to(2, 1), to(4, 2), to(0, 0), to(most+1, 5)}
	opposite := []turn.Dir{to(1, 1), to(-1, -1)}
	for _, c := range []struct {
		l             []turn.Dir
		i, next, prev int
	}{
		{star, 0, 1, 3}, {star, 1, 2, 0}, {star, 2, 3, 1}, {star, 3, 0, 2},
		{like, 0, 4, 1}, {like, 1, 0, 4}, {like, 2, 4, 1}, {like, 3, 0, 4}, {like, 4, 1, 0}, {like, 5, 1, 0}, {like, 6, 6, 6},
		{same, 0, 0, 0}, {same, 1, 1, 1}, {same, 2, 2, 2}, {same, 3, 3, 3},
		{opposite, 0, 1, 1}, {opposite, 1, 0, 0},
		{star, 4, 4, 4}, {star, -1, -1, -1}, {star, math.MaxInt, math.MaxInt, math.MaxInt}, {star, math.MinInt, math.MinInt, math.MinInt},
		{nil, 0, 0, 0}, {nil, -3, -3, -3},
	} {
		if next, prev := turn.Next(c.l, c.i), turn.Prev(c.l, c.i); next != c.next || prev != c.prev {
			t.Errorf("%v at %d: %d, %d", c.l, c.i, next, prev)
		}
	}
}

// Promises 11.1, 11.2: Next and Prev of any list, at any place and beside it.
func TestNextAndPrevOfAny(t *testing.T) {
	r := noise()
	for round := range 600 {
		var l []turn.Dir
		for range round % 12 {
			l = append(l, some(r))
		}
		given := slices.Clone(l)
		for i := -2; i < len(l)+2; i++ {
			if got, want := turn.Next(l, i), wantRound(l, i, 1); got != want {
				t.Fatalf("Next(%v, %d) = %d, not %d", l, i, got, want)
			}
			if got, want := turn.Prev(l, i), wantRound(l, i, -1); got != want {
				t.Fatalf("Prev(%v, %d) = %d, not %d", l, i, got, want)
			}
		}
		if !slices.Equal(l, given) {
			t.Fatal("changed", given, l)
		}
	}
}

// Promise 11.1: Between is open at both ends, and goes all the way round from a direction to itself.
func TestBetween(t *testing.T) {
	east, north, west, south := to(1, 0), to(0, 1), to(-1, 0), to(0, -1)
	for i, c := range []struct {
		a, b, d turn.Dir
		is      bool
	}{
		{east, west, north, true}, {east, west, south, false},
		{west, east, south, true}, {west, east, north, false},
		{south, north, east, true}, {north, south, east, false}, {north, south, west, true},
		{east, north, to(4, 0), false}, {east, north, to(0, 4), false},
		{north, east, to(0, 4), false}, {north, east, to(4, 0), false}, {north, east, to(1, 1), false},
		{north, to(0, 5), south, true}, {north, to(0, 5), east, true}, {north, to(0, 5), to(0, 2), false},
		{to(0, 0), north, west, false}, {north, to(0, 0), west, false}, {north, south, to(0, 0), false},
		{to(most+1, 0), west, north, false}, {east, to(-most-1, 0), north, false}, {east, west, to(0, most+1), false},
		{to(0, 0), to(0, 0), north, false},
	} {
		if turn.Between(c.a, c.b, c.d) != c.is {
			t.Error(i, c)
		}
	}
}

// Promises 11.1, 11.2: Between of all small directions, and of such at the bounds and beyond.
func TestBetweenOfAny(t *testing.T) {
	hold := func(a, b, d turn.Dir) {
		if got, want := turn.Between(a, b, d), wantBetween(a, b, d); got != want {
			t.Fatalf("Between(%v, %v, %v) = %v", a, b, d, got)
		}
	}
	for _, a := range square(2) {
		for _, b := range square(2) {
			for _, d := range square(2) {
				hold(a, b, d)
			}
		}
	}
	r := noise()
	for range 30000 {
		hold(some(r), some(r), some(r))
	}
}
