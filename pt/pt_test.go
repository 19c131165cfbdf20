package pt_test

import (
	"fmt"
	"math"
	"math/big"
	"math/rand"
	"slices"
	"testing"

	"terrier/api"
	"terrier/pt"
)

const most = api.MaxGrid

func at(x, y int64) api.P { return api.P{X: x, Y: y} }

// noise is the same at each run, so that a failure comes again.
func noise() *rand.Rand { return rand.New(rand.NewSource(1)) }

// edges: numbers of the grid, its bounds, just beyond them and far beyond.
func edges() []int64 {
	return []int64{0, 1, -1, 2, -7, most - 1, most, most + 1, 1 - most, -most, -most - 1, 1 << 31, -1 << 32, 1 << 62, -1 << 62, math.MaxInt64, math.MinInt64}
}

func edgePoints() []api.P {
	var l []api.P
	for _, x := range edges() {
		for _, y := range edges() {
			l = append(l, at(x, y))
		}
	}
	return l
}

// smallPoints: few enough for all triples of them, enough for all ways to stand.
func smallPoints(to int64) []api.P {
	var l []api.P
	for x := -to; x <= to; x++ {
		for y := -to; y <= to; y++ {
			l = append(l, at(x, y))
		}
	}
	return l
}

func nearNumber(x int64) int64 {
	if x > most {
		return most
	}
	if x < -most {
		return -most
	}
	return x
}

// near: the point that the chapter says a call takes for p.
func near(p api.P) api.P { return at(nearNumber(p.X), nearNumber(p.Y)) }

// some: a point that is often small, often at a bound, at times beyond.
func some(r *rand.Rand) api.P {
	number := func() int64 {
		switch r.Intn(5) {
		case 0:
			return edges()[r.Intn(len(edges()))]
		case 1:
			return r.Int63n(2*most+1) - most
		case 2:
			return int64(r.Uint64())
		default:
			return r.Int63n(9) - 4
		}
	}
	return at(number(), number())
}

// bigArea is the area by numbers of any length and by another formula: the sum over the triangle's sides.
func bigArea(a, b, c api.P) *big.Int {
	a, b, c = near(a), near(b), near(c)
	sum := new(big.Int)
	for _, s := range [][2]api.P{{a, b}, {b, c}, {c, a}} {
		sum.Add(sum, new(big.Int).Mul(big.NewInt(s[0].X), big.NewInt(s[1].Y)))
		sum.Sub(sum, new(big.Int).Mul(big.NewInt(s[0].Y), big.NewInt(s[1].X)))
	}
	return sum
}

// onSegment: is p = a + t(b - a) with a t from 0 to 1? It is told by the way along the segment, not by a box.
func onSegment(a, b, p api.P) bool {
	a, b, p = near(a), near(b), near(p)
	if a == b {
		return p == a
	}
	along := (b.X-a.X)*(p.X-a.X) + (b.Y-a.Y)*(p.Y-a.Y)
	whole := (b.X-a.X)*(b.X-a.X) + (b.Y-a.Y)*(b.Y-a.Y)
	return bigArea(a, b, p).Sign() == 0 && along >= 0 && along <= whole
}

// Promise 9.1, Ok: the bounds belong to the grid, what is beyond does not, by X alone or by Y alone.
func TestOk(t *testing.T) {
	for _, p := range edgePoints() {
		if got, want := pt.Ok(p), near(p) == p; got != want {
			t.Errorf("Ok(%v) = %v", p, got)
		}
	}
	for _, p := range []api.P{at(0, 0), at(1048576, 1048576), at(-1048576, -1048576), at(1048576, -1048576)} {
		if !pt.Ok(p) {
			t.Errorf("Ok(%v) = false", p)
		}
	}
	for _, p := range []api.P{at(1048577, 0), at(-1048577, 0), at(0, 1048577), at(0, -1048577), at(math.MinInt64, 0), at(0, math.MinInt64), at(math.MaxInt64, math.MaxInt64)} {
		if pt.Ok(p) {
			t.Errorf("Ok(%v) = true", p)
		}
	}
}

// Promise 9.1, Less: by X, then by Y; what is beyond counts as the bound.
func TestLess(t *testing.T) {
	for _, x := range []struct {
		a, b api.P
		want bool
	}{
		{at(1, 9), at(2, 0), true}, {at(2, 0), at(1, 9), false},
		{at(1, 1), at(1, 2), true}, {at(1, 2), at(1, 1), false}, {at(1, 1), at(1, 1), false},
		{at(-5, 0), at(-4, -9), true}, {at(0, -5), at(0, -4), true},
		{at(most, 0), at(most+1, 0), false}, {at(most+9, 0), at(most, 1), true}, {at(math.MaxInt64, 3), at(most+1, 2), false},
		{at(math.MinInt64, 5), at(-most, 6), true}, {at(-most, 6), at(math.MinInt64, 5), false},
		{at(0, most), at(0, most+1), false}, {at(0, math.MinInt64), at(0, -most), false},
	} {
		if got := pt.Less(x.a, x.b); got != x.want {
			t.Errorf("Less(%v, %v) = %v", x.a, x.b, got)
		}
	}
	l := edgePoints()
	for _, a := range l {
		for _, b := range l {
			p, q := near(a), near(b)
			want := p.X < q.X
			if p.X == q.X {
				want = p.Y < q.Y
			}
			if got := pt.Less(a, b); got != want {
				t.Fatalf("Less(%v, %v) = %v", a, b, got)
			}
		}
	}
}

func checkTurn(t *testing.T, a, b, c api.P) {
	t.Helper()
	want := bigArea(a, b, c)
	if got := pt.Area2(a, b, c); big.NewInt(got).Cmp(want) != 0 {
		t.Fatalf("Area2(%v, %v, %v) = %d, want %v", a, b, c, got, want)
	}
	if got := pt.Turn(a, b, c); got != want.Sign() {
		t.Fatalf("Turn(%v, %v, %v) = %d, want %d", a, b, c, got, want.Sign())
	}
}

// Promises 9.1 and 9.3, Area2 and Turn: exact, and above 0 to the left.
func TestTurn(t *testing.T) {
	for _, x := range []struct {
		a, b, c api.P
		area    int64
	}{
		{at(0, 0), at(1, 0), at(1, 1), 1},
		{at(0, 0), at(1, 1), at(1, 0), -1},
		{at(0, 0), at(2, 2), at(-5, -5), 0},
		{at(3, 3), at(3, 3), at(9, 1), 0},
		{at(0, 0), at(4, 0), at(0, 3), 12},
		{at(-most, -most), at(most, -most), at(most, most), 4398046511104},
		{at(-most, -most), at(most, most), at(most, -most), -4398046511104},
		{at(-most, -most), at(most, most-1), at(most-1, most-2), -1},
		{at(-most, -most), at(most-1, most-2), at(most, most-1), 1},
		{at(math.MinInt64, math.MinInt64), at(math.MaxInt64, math.MinInt64), at(math.MaxInt64, math.MaxInt64), 4398046511104},
		{at(0, 0), at(most, most), at(math.MaxInt64, most+5), 0},
	} {
		if got := pt.Area2(x.a, x.b, x.c); got != x.area {
			t.Errorf("Area2(%v, %v, %v) = %d, want %d", x.a, x.b, x.c, got, x.area)
		}
		checkTurn(t, x.a, x.b, x.c)
	}
	for _, a := range smallPoints(2) {
		for _, b := range smallPoints(2) {
			for _, c := range smallPoints(2) {
				checkTurn(t, a, b, c)
			}
		}
	}
	r := noise()
	for range 20000 {
		checkTurn(t, some(r), some(r), some(r))
	}
}

func checkOn(t *testing.T, a, b, p api.P) {
	t.Helper()
	on := onSegment(a, b, p)
	within := on && near(p) != near(a) && near(p) != near(b)
	if got := pt.On(a, b, p); got != on {
		t.Fatalf("On(%v, %v, %v) = %v", a, b, p, got)
	}
	if got := pt.Within(a, b, p); got != within {
		t.Fatalf("Within(%v, %v, %v) = %v", a, b, p, got)
	}
}

// Promise 9.1, On and Within: the segment with its ends, and without.
func TestOn(t *testing.T) {
	for _, x := range []struct {
		a, b, p    api.P
		on, within bool
	}{
		{at(0, 0), at(4, 2), at(2, 1), true, true},
		{at(4, 2), at(0, 0), at(2, 1), true, true},
		{at(0, 0), at(4, 2), at(0, 0), true, false},
		{at(0, 0), at(4, 2), at(4, 2), true, false},
		{at(0, 0), at(4, 2), at(6, 3), false, false},
		{at(0, 0), at(4, 2), at(-2, -1), false, false},
		{at(0, 0), at(4, 2), at(2, 2), false, false},
		{at(0, 0), at(4, 2), at(1, 1), false, false},
		{at(5, 9), at(5, -9), at(5, 0), true, true},
		{at(5, 9), at(5, -9), at(5, 10), false, false},
		{at(-3, 7), at(3, 7), at(4, 7), false, false},
		{at(1, 1), at(1, 1), at(1, 1), true, false},
		{at(1, 1), at(1, 1), at(1, 2), false, false},
		{at(1, 1), at(1, 1), at(2, 1), false, false},
		{at(-most, -most), at(most, most), at(0, 0), true, true},
		{at(-most, -most), at(most, most-1), at(0, 0), false, false},
		{at(most, 0), at(0, 0), at(1<<50, 0), true, false},
		{at(0, 0), at(1<<50, 0), at(most, 0), true, false},
		{at(0, 0), at(1<<50, 0), at(most-1, 0), true, true},
		{at(1<<50, 3), at(1<<40, -3), at(most, 0), true, true},
		{at(1<<50, 3), at(1<<40, 3), at(1<<30, 3), true, false},
		{at(math.MinInt64, 3), at(math.MaxInt64, 3), at(12, 3), true, true},
	} {
		if got := pt.On(x.a, x.b, x.p); got != x.on {
			t.Errorf("On(%v, %v, %v) = %v", x.a, x.b, x.p, got)
		}
		if got := pt.Within(x.a, x.b, x.p); got != x.within {
			t.Errorf("Within(%v, %v, %v) = %v", x.a, x.b, x.p, got)
		}
	}
	for _, a := range smallPoints(2) {
		for _, b := range smallPoints(2) {
			for _, p := range smallPoints(3) {
				checkOn(t, a, b, p)
			}
		}
	}
	r := noise()
	for range 20000 {
		a, b, p := some(r), some(r), some(r)
		checkOn(t, a, b, p)
		q, s := near(a), near(b)
		checkOn(t, a, b, at((q.X+s.X)/2, (q.Y+s.Y)/2))
	}
}

func checkBox(t *testing.T, l []api.P) {
	t.Helper()
	xs, ys := make([]int64, 0, len(l)), make([]int64, 0, len(l))
	for _, p := range l {
		xs, ys = append(xs, near(p).X), append(ys, near(p).Y)
	}
	slices.Sort(xs)
	slices.Sort(ys)
	wantLo, wantHi := at(xs[0], ys[0]), at(xs[len(xs)-1], ys[len(ys)-1])
	if lo, hi, ok := pt.Box(l); lo != wantLo || hi != wantHi || !ok {
		t.Fatalf("Box(%v) = %v, %v, %v", l, lo, hi, ok)
	}
}

// Promise 9.1, Box: the least and the greatest X and Y, each by itself; false of no point.
func TestBox(t *testing.T) {
	for _, l := range [][]api.P{nil, {}, make([]api.P, 0, 3)} {
		if lo, hi, ok := pt.Box(l); lo != at(0, 0) || hi != at(0, 0) || ok {
			t.Errorf("Box(%v) = %v, %v, %v", l, lo, hi, ok)
		}
	}
	for i, x := range []struct {
		l      []api.P
		lo, hi api.P
	}{
		{[]api.P{at(7, -2)}, at(7, -2), at(7, -2)},
		{[]api.P{at(-7, -2), at(-3, -9)}, at(-7, -9), at(-3, -2)},
		{[]api.P{at(3, -1), at(1<<50, 4), at(2, 9)}, at(2, -1), at(most, 9)},
		{[]api.P{at(most+1, most+1)}, at(most, most), at(most, most)},
		{[]api.P{at(math.MinInt64, math.MaxInt64)}, at(-most, most), at(-most, most)},
		{[]api.P{at(-most, -most), at(most, most), at(0, 0)}, at(-most, -most), at(most, most)},
		{[]api.P{at(-most, -most), at(most, most-1), at(0, most)}, at(-most, -most), at(most, most)},
		{[]api.P{at(-most, 1-most), at(most, most), at(0, -most)}, at(-most, -most), at(most, most)},
		{[]api.P{at(1-most, -most), at(most, most), at(-most, 0)}, at(-most, -most), at(most, most)},
		{[]api.P{at(-most, -most), at(most-1, most), at(most, 0)}, at(-most, -most), at(most, most)},
	} {
		if lo, hi, ok := pt.Box(x.l); lo != x.lo || hi != x.hi || !ok {
			t.Errorf("%d: Box = %v, %v, %v", i, lo, hi, ok)
		}
	}
	r := noise()
	for range 5000 {
		l := make([]api.P, 1+r.Intn(9))
		for i := range l {
			l[i] = some(r)
		}
		checkBox(t, l)
	}
}

// Rule 3: Box leaves the list and its spare room as they were.
func TestBoxChangesNothing(t *testing.T) {
	room := []api.P{at(1<<40, 2), at(-1<<40, 1<<50), at(5, 5), at(1<<41, 6)}
	was := slices.Clone(room)
	pt.Box(room[:2])
	if !slices.Equal(room, was) {
		t.Errorf("behind Box: %v", room)
	}
}

// meets goes through all points of a small grid.
func meets(alo, ahi, blo, bhi api.P) bool {
	in := func(lo, hi, p api.P) bool { return lo.X <= p.X && p.X <= hi.X && lo.Y <= p.Y && p.Y <= hi.Y }
	return slices.ContainsFunc(smallPoints(1), func(p api.P) bool { return in(alo, ahi, p) && in(blo, bhi, p) })
}

// Promise 9.1, Meet: all boxes of a small grid, those whose lo is above their hi too.
func TestMeet(t *testing.T) {
	l := smallPoints(1)
	for _, alo := range l {
		for _, ahi := range l {
			for _, blo := range l {
				for _, bhi := range l {
					if got := pt.Meet(alo, ahi, blo, bhi); got != meets(alo, ahi, blo, bhi) {
						t.Fatalf("Meet(%v, %v, %v, %v) = %v", alo, ahi, blo, bhi, got)
					}
				}
			}
		}
	}
}

// Promise 9.1, Meet: what is beyond the grid counts as its bound.
func TestMeetBeyond(t *testing.T) {
	for _, x := range []struct {
		alo, ahi, blo, bhi api.P
		want               bool
	}{
		{at(0, 0), at(most, most), at(most+1, most+1), at(most+2, most+2), true},
		{at(0, 0), at(most-1, most), at(most+1, 0), at(most+2, 9), false},
		{at(0, 0), at(most, most-1), at(0, most+1), at(9, most+2), false},
		{at(math.MinInt64, math.MinInt64), at(-most-1, -most-1), at(-most, -most), at(0, 0), true},
		{at(most+9, 0), at(most+1, 0), at(0, 0), at(most, 0), true}, // its lo is not above its hi, as the call takes them
		{at(most+9, 0), at(most-1, 0), at(0, 0), at(most, 0), false},
		{at(math.MinInt64, math.MinInt64), at(math.MaxInt64, math.MaxInt64), at(5, 5), at(5, 5), true},
		{at(math.MaxInt64, math.MaxInt64), at(math.MinInt64, math.MinInt64), at(5, 5), at(5, 5), false},
	} {
		if got := pt.Meet(x.alo, x.ahi, x.blo, x.bhi); got != x.want {
			t.Errorf("Meet(%v, %v, %v, %v) = %v", x.alo, x.ahi, x.blo, x.bhi, got)
		}
		if got := pt.Meet(x.blo, x.bhi, x.alo, x.ahi); got != x.want {
			t.Errorf("Meet(%v, %v, %v, %v) = %v", x.blo, x.bhi, x.alo, x.ahi, got)
		}
	}
}

// mortonByText: the bits laid side by side as texts, read as one number.
func mortonByText(p api.P) uint64 {
	p = near(p)
	x, y := fmt.Sprintf("%022b", p.X+most), fmt.Sprintf("%022b", p.Y+most)
	both := ""
	for i := range x {
		both += y[i:i+1] + x[i:i+1]
	}
	var m uint64
	fmt.Sscanf(both, "%b", &m)
	return m
}

// Promise 9.2, Morton and back (W8): also of what is beyond, which comes back as the bound.
func TestMorton(t *testing.T) {
	for p, want := range map[api.P]uint64{
		at(-most, -most):     0,
		at(1-most, -most):    1,
		at(-most, 1-most):    2,
		at(3-most, 1-most):   7,
		at(0, 0):             3 << 40,
		at(most-1, most-1):   1<<42 - 1,
		at(most, -most):      1 << 42,
		at(-most, most):      1 << 43,
		at(most, most):       3 << 42,
		at(1<<60, -1<<60):    1 << 42,
		at(-most-1, most+1):  1 << 43,
		at(math.MinInt64, 0): 1 << 41,
	} {
		if got := pt.Morton(p); got != want {
			t.Errorf("Morton(%v) = %x, want %x", p, got, want)
		}
	}
	l := edgePoints()
	r := noise()
	for range 5000 {
		l = append(l, some(r))
	}
	for _, p := range l {
		m := pt.Morton(p)
		if want := mortonByText(p); m != want {
			t.Fatalf("Morton(%v) = %x, want %x", p, m, want)
		}
		if back, ok := pt.FromMorton(m); back != near(p) || !ok {
			t.Fatalf("FromMorton(%x) = %v, %v, want %v", m, back, ok, near(p))
		}
	}
}

// Promise 9.2, FromMorton: a number that is no point's is refused, whichever bit is too much; of all others Morton is the way back.
func TestFromMorton(t *testing.T) {
	var l []uint64
	for i := range 64 {
		l = append(l, 1<<i, 1<<i-1, 1<<42|1<<i, 1<<43|1<<i, 3<<42|1<<i, 1<<i|1)
	}
	l = append(l, math.MaxUint64, 1<<44-1)
	r := noise()
	for range 5000 {
		l = append(l, r.Uint64(), r.Uint64()>>20, r.Uint64()>>22)
	}
	for _, m := range l {
		x := m&(1<<42) == 0 || m&0x5555555555555555 == 1<<42
		y := m&(1<<43) == 0 || m&0xaaaaaaaaaaaaaaaa == 1<<43
		want := m < 1<<44 && x && y
		p, ok := pt.FromMorton(m)
		if ok != want {
			t.Fatalf("FromMorton(%x) = %v, %v", m, p, ok)
		}
		if ok && (!pt.Ok(p) || pt.Morton(p) != m) {
			t.Fatalf("FromMorton(%x) = %v, whose Morton is %x", m, p, pt.Morton(p))
		}
		if !ok && p != at(0, 0) {
			t.Fatalf("FromMorton(%x) = %v beside a false", m, p)
		}
	}
}
