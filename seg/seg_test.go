package seg_test

import (
	"math"
	"math/big"
	"math/rand"
	"testing"

	"terrier/api"
	"terrier/seg"
)

const most = api.MaxGrid

func at(x, y int64) api.P { return api.P{X: x, Y: y} }

// noise is the same at each run, so that a failure comes again.
func noise() *rand.Rand { return rand.New(rand.NewSource(1)) }

// edges: numbers of the grid, its bounds, just beyond them and far beyond.
func edges() []int64 {
	return []int64{0, 1, -1, 2, -7, most - 1, most, most + 1, 1 - most, -most, -most - 1, 1 << 31, -1 << 32, 1 << 62, -1 << 62, math.MaxInt64, math.MinInt64}
}

// square: all points from (0,0) to (to,to).
func square(to int64) []api.P {
	var l []api.P
	for x := range to + 1 {
		for y := range to + 1 {
			l = append(l, at(x, y))
		}
	}
	return l
}

func nearNumber(x int64) int64 {
	if x > most {
		return most
	}
	if x < -most {
		return -most
	}
	return x
}

// near: the point that a call takes for p.
func near(p api.P) api.P { return at(nearNumber(p.X), nearNumber(p.Y)) }

// some: a point that is often small, often at a bound, at times beyond.
func some(r *rand.Rand) api.P {
	number := func() int64 {
		switch r.Intn(5) {
		case 0:
			return edges()[r.Intn(len(edges()))]
		case 1:
			return r.Int63n(2*most+1) - most
		case 2:
			return int64(r.Uint64())
		default:
			return r.Int63n(9) - 4
		}
	}
	return at(number(), number())
}

func less(a, b api.P) api.P { return at(a.X-b.X, a.Y-b.Y) }

func cross(a, b api.P) int64 { return a.X*b.Y - a.Y*b.X }

func dot(a, b api.P) int64 { return a.X*b.X + a.Y*b.Y }

// share: n / d as a number from 0 to 1; end, if it is one of these two.
func share(n, d int64) (in, end bool) {
	r := big.NewRat(n, d)
	one := big.NewRat(1, 1)
	return r.Sign() >= 0 && r.Cmp(one) <= 0, r.Sign() == 0 || r.Cmp(one) == 0
}

// pointOn: of a point and a segment (which may be a point too).
func pointOn(p, a, b api.P) int {
	if p == a || p == b {
		return api.SEnd
	}
	v := less(b, a)
	if cross(v, less(p, a)) == 0 && dot(v, less(p, a)) > 0 && dot(v, less(p, a)) < dot(v, v) {
		return api.STouch
	}
	return api.SNone
}

// onOneLine: of two segments of one line, by the stretches that they take of it.
func onOneLine(a, b, c, d api.P) int {
	v := less(b, a)
	from, to := dot(v, less(c, a)), dot(v, less(d, a))
	lo, hi := max(0, min(from, to)), min(dot(v, v), max(from, to))
	switch {
	case lo > hi:
		return api.SNone
	case lo == hi:
		return api.SEnd
	default:
		return api.SOver
	}
}

// bySolving: where the lines meet is solved for the shares of both segments; no turn is asked.
func bySolving(a, b, c, d api.P) int {
	a, b, c, d = near(a), near(b), near(c), near(d)
	if a == b {
		return pointOn(a, c, d)
	}
	if c == d {
		return pointOn(c, a, b)
	}
	v, w, from := less(b, a), less(d, c), less(c, a)
	if cross(v, w) == 0 {
		if cross(v, from) != 0 {
			return api.SNone
		}
		return onOneLine(a, b, c, d)
	}
	inAB, endOfAB := share(cross(from, w), cross(v, w))
	inCD, endOfCD := share(cross(from, v), cross(v, w))
	switch {
	case !inAB || !inCD:
		return api.SNone
	case endOfAB && endOfCD:
		return api.SEnd
	case endOfAB || endOfCD:
		return api.STouch
	default:
		return api.SCross
	}
}

func check(t *testing.T, a, b, c, d api.P) {
	t.Helper()
	want := bySolving(a, b, c, d)
	if got := seg.Relate(a, b, c, d); got != want {
		t.Fatalf("Relate(%v, %v, %v, %v) = %d, want %d", a, b, c, d, got, want)
	}
	if got := seg.Cross(a, b, c, d); got != (want == api.SCross) {
		t.Fatalf("Cross(%v, %v, %v, %v) = %v", a, b, c, d, got)
	}
	p, ok := seg.Shared(a, b, c, d)
	if ok != (want == api.SEnd) {
		t.Fatalf("Shared(%v, %v, %v, %v) = %v, %v", a, b, c, d, p, ok)
	}
	shared := at(0, 0)
	if ok {
		shared = near(a)
		if shared != near(c) && shared != near(d) {
			shared = near(b)
		}
	}
	if p != shared {
		t.Fatalf("Shared(%v, %v, %v, %v) = %v, want %v", a, b, c, d, p, shared)
	}
}

// Promise 10.1: each kind, whichever way and in whichever order the segments come.
func TestRelate(t *testing.T) {
	for i, x := range []struct {
		a, b, c, d api.P
		want       int
	}{
		{at(0, 0), at(2, 2), at(0, 2), at(2, 0), api.SCross},
		{at(0, 0), at(3, 1), at(1, 0), at(2, 1), api.SCross}, // not at a point of the grid
		{at(0, 0), at(4, 0), at(2, -3), at(2, 5), api.SCross},
		{at(0, 0), at(4, 0), at(2, 0), at(2, 5), api.STouch},
		{at(0, 0), at(6, 3), at(2, 1), at(2, 0), api.STouch},
		{at(0, 0), at(4, 0), at(4, 0), at(4, 5), api.SEnd},
		{at(0, 0), at(4, 0), at(4, 0), at(9, 0), api.SEnd},
		{at(0, 0), at(4, 2), at(-2, -1), at(0, 0), api.SEnd},
		{at(0, 0), at(4, 0), at(5, 0), at(9, 0), api.SNone},
		{at(0, 0), at(4, 0), at(5, -1), at(5, 1), api.SNone},
		{at(0, 0), at(4, 0), at(0, 1), at(4, 1), api.SNone},
		{at(0, 0), at(4, 0), at(2, 1), at(2, 5), api.SNone},
		{at(0, 0), at(4, 0), at(5, 0), at(7, 3), api.SNone},
		{at(0, 0), at(4, 0), at(3, 0), at(9, 0), api.SOver},
		{at(0, 0), at(9, 0), at(2, 0), at(4, 0), api.SOver},
		{at(0, 0), at(9, 9), at(0, 0), at(4, 4), api.SOver},
		{at(0, 0), at(4, 2), at(0, 0), at(4, 2), api.SOver},
		{at(1, 1), at(1, 1), at(1, 1), at(1, 1), api.SEnd},
		{at(1, 1), at(1, 1), at(2, 1), at(2, 1), api.SNone},
		{at(1, 1), at(1, 1), at(1, 1), at(5, 3), api.SEnd},
		{at(3, 2), at(3, 2), at(1, 1), at(5, 3), api.STouch},
		{at(3, 3), at(3, 3), at(1, 1), at(5, 3), api.SNone},
		{at(7, 4), at(7, 4), at(1, 1), at(5, 3), api.SNone}, // on its line, but not on it
		{at(-most, -most), at(most, most), at(-most, most), at(most, -most), api.SCross},
		{at(-most, -most), at(most, most-1), at(-most, 1-most), at(most, most), api.SNone},
		{at(-most, -most), at(most, most), at(most-1, most), at(most, most-1), api.SCross},
		{at(-most, -most), at(most, most-1), at(0, 0), at(0, -1), api.SCross}, // at (0, -1/2)
		{at(-most, -most), at(most, most), at(0, 0), at(1, 0), api.STouch},
	} {
		for _, y := range [][4]api.P{
			{x.a, x.b, x.c, x.d}, {x.b, x.a, x.c, x.d}, {x.a, x.b, x.d, x.c}, {x.b, x.a, x.d, x.c},
			{x.c, x.d, x.a, x.b}, {x.d, x.c, x.a, x.b}, {x.c, x.d, x.b, x.a}, {x.d, x.c, x.b, x.a},
		} {
			if got := seg.Relate(y[0], y[1], y[2], y[3]); got != x.want {
				t.Errorf("%d: Relate(%v) = %d, want %d", i, y, got, x.want)
			}
			check(t, y[0], y[1], y[2], y[3])
		}
	}
}

// Promise 10.1: all pairs of segments of a small square, those that are points too.
func TestRelateAllSmall(t *testing.T) {
	l := square(3)
	for _, a := range l {
		for _, b := range l {
			for _, c := range l {
				for _, d := range l {
					check(t, a, b, c, d)
				}
			}
		}
	}
}

// Promise 10.2: exact all over the grid. Segments that nearly meet are made of ones that do.
func TestRelateWide(t *testing.T) {
	r := noise()
	for range 20000 {
		a, b, c, d := some(r), some(r), some(r), some(r)
		check(t, a, b, c, d)
		p, q := near(a), near(b)
		midst := at((p.X+q.X)/2, (p.Y+q.Y)/2)
		beside := at(midst.X+r.Int63n(3)-1, midst.Y+r.Int63n(3)-1)
		check(t, a, b, midst, d)
		check(t, a, b, beside, d)
		check(t, c, beside, a, b)
		check(t, a, b, d, b)
		check(t, a, b, midst, b)
		check(t, a, midst, beside, b)
	}
}

// Promise 10.1, Shared: that point, and (0,0) beside a false.
func TestShared(t *testing.T) {
	for i, x := range []struct {
		a, b, c, d, want api.P
		ok               bool
	}{
		{at(1, 2), at(5, 6), at(1, 2), at(9, 0), at(1, 2), true},
		{at(5, 6), at(1, 2), at(9, 0), at(1, 2), at(1, 2), true},
		{at(1, 2), at(3, 2), at(3, 2), at(9, 2), at(3, 2), true},
		{at(3, 3), at(3, 3), at(3, 3), at(3, 3), at(3, 3), true},
		{at(3, 3), at(3, 3), at(7, 7), at(3, 3), at(3, 3), true},
		{at(0, 0), at(5, 5), at(0, 0), at(1, 0), at(0, 0), true},
		{at(1, 1), at(5, 1), at(3, 1), at(3, 4), at(0, 0), false}, // STouch
		{at(1, 1), at(5, 5), at(1, 5), at(5, 1), at(0, 0), false}, // SCross
		{at(1, 1), at(5, 5), at(1, 1), at(3, 3), at(0, 0), false}, // SOver
		{at(1, 1), at(5, 5), at(1, 1), at(5, 5), at(0, 0), false}, // SOver
		{at(1, 1), at(5, 5), at(7, 1), at(7, 5), at(0, 0), false}, // SNone
	} {
		if p, ok := seg.Shared(x.a, x.b, x.c, x.d); p != x.want || ok != x.ok {
			t.Errorf("%d: Shared = %v, %v", i, p, ok)
		}
	}
}

// Promise 10.2, wrong inputs: what is beyond the grid is taken as its bound (chapter 9), by each call and each part of it.
func TestBeyond(t *testing.T) {
	far := at(1<<40, 0)
	if got := seg.Relate(at(0, 0), far, at(1<<50, 0), at(0, 5)); got != api.SEnd {
		t.Errorf("Relate = %d", got)
	}
	if p, ok := seg.Shared(at(0, 0), far, at(1<<50, 0), at(0, 5)); p != at(most, 0) || !ok {
		t.Errorf("Shared = %v, %v", p, ok)
	}
	if got := seg.Relate(far, at(most+1, 0), at(most, 0), at(most, 0)); got != api.SEnd {
		t.Errorf("Relate of what is one point = %d", got)
	}
	if !seg.Cross(at(math.MinInt64, math.MinInt64), at(math.MaxInt64, math.MaxInt64), at(math.MinInt64, math.MaxInt64), at(math.MaxInt64, math.MinInt64)) {
		t.Error("the diagonals of all numbers do not cross")
	}
	for _, x := range edges() {
		for _, y := range edges() {
			check(t, at(x, y), at(y, x), at(x, x), at(y, y))
			check(t, at(x, y), at(0, 0), at(y, y), at(x, y))
			check(t, at(x, 3), at(y, 3), at(5, 3), at(most, 3))
		}
	}
}

// rayByShare: where the segment is at p's height is solved for, and held against p.
func rayByShare(a, b, p api.P) bool {
	a, b, p = near(a), near(b), near(p)
	if (a.Y > p.Y) == (b.Y > p.Y) {
		return false
	}
	x := big.NewRat((p.Y-a.Y)*(b.X-a.X), b.Y-a.Y)
	x.Add(x, big.NewRat(a.X, 1))
	return x.Cmp(big.NewRat(p.X, 1)) > 0
}

func checkRay(t *testing.T, a, b, p api.P) {
	t.Helper()
	if got, want := seg.Ray(a, b, p), rayByShare(a, b, p); got != want {
		t.Fatalf("Ray(%v, %v, %v) = %v", a, b, p, got)
	}
}

// Promise 10.1, Ray: one end above, the other not; p strictly at the left, whichever way the segment goes.
func TestRay(t *testing.T) {
	for i, x := range []struct {
		a, b, p api.P
		want    bool
	}{
		{at(5, 0), at(5, 4), at(0, 2), true},
		{at(5, 0), at(5, 4), at(4, 2), true},
		{at(5, 0), at(5, 4), at(5, 2), false}, // on it
		{at(5, 0), at(5, 4), at(6, 2), false},
		{at(5, 0), at(5, 4), at(0, 0), true},  // at the lower end's height
		{at(5, 0), at(5, 4), at(0, 4), false}, // at the upper end's height
		{at(5, 0), at(5, 4), at(0, -1), false},
		{at(5, 0), at(5, 4), at(0, 5), false},
		{at(5, 0), at(5, 4), at(5, 0), false},
		{at(0, 0), at(4, 4), at(1, 2), true},
		{at(0, 0), at(4, 4), at(2, 1), false},
		{at(4, 0), at(0, 4), at(1, 2), true},
		{at(4, 0), at(0, 4), at(2, 3), false},
		{at(2, 2), at(9, 2), at(0, 2), false}, // level
		{at(3, 3), at(3, 3), at(0, 3), false}, // a point
		{at(-most, -most), at(most, most), at(0, 1), true},
		{at(-most, -most), at(most, most), at(0, 0), false},
		{at(1-most, -most), at(most, most), at(0, 0), true}, // by a half of the grid's step
		{at(5, 0), at(5, 1<<40), at(0, 1<<30), false},       // both are at the bound
		{at(5, 0), at(5, 1<<30), at(0, most-1), true},
		{at(1<<40, -1<<40), at(1<<50, 1<<40), at(1<<30, 0), false},
		{at(1<<40, -1<<40), at(1<<50, 1<<40), at(most-1, 0), true},
		{at(0, math.MinInt64), at(0, math.MaxInt64), at(math.MinInt64, math.MinInt64), true},
	} {
		if got := seg.Ray(x.a, x.b, x.p); got != x.want {
			t.Errorf("%d: Ray(%v, %v, %v) = %v", i, x.a, x.b, x.p, got)
		}
		checkRay(t, x.b, x.a, x.p)
	}
	l := square(4)
	for _, a := range l {
		for _, b := range l {
			for _, p := range l {
				checkRay(t, a, b, p)
			}
		}
	}
	r := noise()
	for range 20000 {
		a, b, p := some(r), some(r), some(r)
		checkRay(t, a, b, p)
		q, s := near(a), near(b)
		checkRay(t, a, b, at((q.X+s.X)/2+r.Int63n(3)-1, (q.Y+s.Y)/2))
	}
}
