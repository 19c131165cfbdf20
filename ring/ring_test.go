package ring_test

import (
	"math"
	"math/big"
	"math/rand"
	"slices"
	"testing"

	"terrier/api"
	"terrier/line"
	"terrier/ring"
)

const most = api.MaxGrid

// longest: how many points a ring has at most of which all is promised.
const longest = 4096

func at(x, y int64) api.P { return api.P{X: x, Y: y} }

// of: the ring through the points (n[0],n[1]), (n[2],n[3]) ..
func of(n ...int64) []api.P {
	var l []api.P
	for i := 0; i < len(n); i += 2 {
		l = append(l, at(n[i], n[i+1]))
	}
	return l
}

// noise is the same at each run, so that a failure comes again.
func noise() *rand.Rand { return rand.New(rand.NewSource(1)) }

// field: all points from (-1,-1) to (to,to).
func field(to int64) []api.P {
	var l []api.P
	for x := int64(-1); x <= to; x++ {
		for y := int64(-1); y <= to; y++ {
			l = append(l, at(x, y))
		}
	}
	return l
}

// everyRing calls do with all rings of n points out of from.
func everyRing(from []api.P, n int, do func([]api.P)) {
	l := make([]api.P, n)
	var lay func(i int)
	lay = func(i int) {
		if i == n {
			do(l)
			return
		}
		for _, p := range from {
			l[i] = p
			lay(i + 1)
		}
	}
	lay(0)
}

// some: a ring of up to n points from (0,0) to (to,to).
func some(r *rand.Rand, n int, to int64) []api.P {
	l := make([]api.P, r.Intn(n+1))
	for i := range l {
		l[i] = at(r.Int63n(to+1), r.Int63n(to+1))
	}
	return l
}

// wide: a ring of n points of the whole grid, its bounds among them.
func wide(r *rand.Rand, n int) []api.P {
	number := func() int64 {
		switch r.Intn(4) {
		case 0:
			return -most
		case 1:
			return most
		default:
			return r.Int63n(2*most+1) - most
		}
	}
	l := make([]api.P, n)
	for i := range l {
		l[i] = at(number(), number())
	}
	return l
}

// simple: as many rings as asked for, of up to n points from (0,0) to (to,to), that meet themselves nowhere.
func simple(r *rand.Rand, count, n int, to int64) [][]api.P {
	var rings [][]api.P
	for len(rings) < count {
		l := some(r, n, to)
		if len(l) > 2 && line.Ok(append(slices.Clone(l), l[0])) {
			rings = append(rings, l)
		}
	}
	return rings
}

// from: the same ring, from its point i on.
func from(l []api.P, i int) []api.P { return slices.Concat(l[i:], l[:i]) }

// areaByWords sums up the cross products as promise 13.1 has them, by numbers of any size.
func areaByWords(l []api.P) *big.Int {
	sum := new(big.Int)
	for i, a := range l {
		b := l[0]
		if i+1 < len(l) {
			b = l[i+1]
		}
		sum.Add(sum, new(big.Int).Mul(big.NewInt(a.X), big.NewInt(b.Y)))
		sum.Sub(sum, new(big.Int).Mul(big.NewInt(a.Y), big.NewInt(b.X)))
	}
	return sum
}

// insideByUp looks from p upward, where Ray looks to the right: an odd number is odd whichever way one looks. For points of the grid.
func insideByUp(l []api.P, p api.P) int {
	met := 0
	for i, a := range l {
		b := l[(i+1)%len(l)]
		if b.X < a.X {
			a, b = b, a
		}
		height := (b.X-a.X)*(p.Y-a.Y) - (b.Y-a.Y)*(p.X-a.X) // below 0: p is below the segment
		flat := min(a.Y, b.Y) <= p.Y && p.Y <= max(a.Y, b.Y)
		if a.X <= p.X && p.X <= b.X && flat && height == 0 {
			return api.POn
		}
		if a.X <= p.X && p.X < b.X && height < 0 {
			met++
		}
	}
	if met%2 == 1 {
		return api.PIn
	}
	return api.POut
}

// Promise 13.1: Area2 is above 0 of what turns to the left, and 0 of fewer than three points.
func TestArea2(t *testing.T) {
	square := of(0, 0, 4, 0, 4, 4, 0, 4)
	for i, c := range []struct {
		l    []api.P
		area int64
	}{
		{of(0, 0, 1, 0, 1, 1), 1},
		{of(0, 0, 1, 1, 1, 0), -1},
		{nil, 0}, {[]api.P{}, 0}, {of(5, 7), 0}, {of(5, 7, 9, 2), 0}, {of(most, -most, most, most), 0},
		{square, 32},
		{of(0, 0, 0, 4, 4, 4, 4, 0), -32},
		{of(100, -50, 104, -50, 104, -46, 100, -46), 32}, // far from (0,0)
		{of(-7, -7, -3, -7, -3, -3, -7, -3), 32},
		{of(0, 0, 4, 0, 4, 4, 0, 4, 0, 0), 32},             // its first point told again
		{of(0, 0, 4, 0, 4, 4, 8, 4, 4, 4, 0, 4), 32},       // with a tail
		{of(0, 0, 9, 0, 0, 0), 0},                          // there and back
		{of(0, 0, 3, 0, 9, 0), 0},                          // on a line
		{of(0, 0, 4, 4, 4, 0, 0, 4), 0},                    // an eight: what turns to the left is what turns to the right
		{of(0, 0, 4, 0, 4, 4, 0, 0, 4, 0, 4, 4), 32},       // twice round
		{of(0, 0, 2, 0, 2, 2, 0, 2, 0, 0, 0, 3, 3, 0), -1}, // a square less a triangle
		{of(-most, -most, most, -most, most, most, -most, most), 8 * most * most},
		{of(-most, -most, -most, most, most, most, most, -most), -8 * most * most},
		{of(-most, -most, most, most-1, most, most), 2 * most},
		{of(most, most, most-1, most, most, most-1), 1}, // a small one at the bound
	} {
		if got := ring.Area2(c.l); got != c.area {
			t.Errorf("%d: Area2(%v) = %d, not %d", i, c.l, got, c.area)
		}
	}
}

// Promises 13.1, 13.2: Area2 is exact of up to 4,096 points of the grid, from whichever point on and either way round.
func TestArea2OfAny(t *testing.T) {
	r := noise()
	for n := range 200 {
		if n > 150 {
			n = longest - n + 151
		}
		l := wide(r, n)
		got := ring.Area2(l)
		if want := areaByWords(l); big.NewInt(got).Cmp(want) != 0 {
			t.Fatalf("Area2 of %d points = %d, not %v", n, got, want)
		}
		if ring.Area2(ring.Turned(l)) != -got || n > 0 && ring.Area2(from(l, r.Intn(n))) != got {
			t.Fatalf("Area2 of %d points: %d turned, %d", n, ring.Area2(ring.Turned(l)), got)
		}
	}
	grid := of(-most, -most, most, -most, most, most, -most, most)
	round := slices.Repeat(grid, longest/len(grid))
	if got := ring.Area2(round); got != 1<<53 || ring.Area2(ring.Turned(round)) != -got {
		t.Error("Area2 of the greatest ring =", got)
	}
}

// Promise 13.1: where a point lies, of plain rings, of rings that touch themselves, and of what is hardly one.
func TestInside(t *testing.T) {
	square := of(0, 0, 4, 0, 4, 4, 0, 4)
	wedge := of(0, 0, 4, 4, 0, 8)                              // a corner at the height of what is asked
	tail := of(0, 0, 8, 0, 8, 8, 4, 8, 4, 4, 4, 8, 0, 8)       // into the square
	teeth := of(0, 4, 2, 0, 4, 4, 6, 0, 8, 4, 4, 8)            // a corner downward in its midst
	step := of(0, 0, 9, 0, 9, 4, 6, 4, 6, 8, 3, 8, 3, 4, 0, 4) // flat at the height of what is asked
	eight := of(0, 0, 4, 4, 4, 0, 0, 4)
	thin := of(-most, -most, most, most-1, most-1, most) // half a step to either side of (0,0)
	grid := of(-most, -most, most, -most, most, most, -most, most)
	for i, c := range []struct {
		l    []api.P
		p    api.P
		want int
	}{
		{square, at(2, 2), api.PIn}, {square, at(1, 3), api.PIn},
		{square, at(0, 2), api.POn}, {square, at(4, 2), api.POn}, {square, at(2, 0), api.POn}, {square, at(2, 4), api.POn},
		{square, at(0, 0), api.POn}, {square, at(4, 4), api.POn}, {square, at(0, 4), api.POn},
		{square, at(5, 2), api.POut}, {square, at(-1, 2), api.POut}, {square, at(2, 5), api.POut}, {square, at(2, -1), api.POut},
		{square, at(-1, 0), api.POut}, {square, at(-1, 4), api.POut}, {square, at(5, 4), api.POut}, {square, at(9, 9), api.POut},
		{wedge, at(1, 4), api.PIn}, {wedge, at(-1, 4), api.POut}, {wedge, at(5, 4), api.POut}, {wedge, at(0, 4), api.POn}, // on the segment that closes it
		{tail, at(4, 6), api.POn}, {tail, at(4, 4), api.POn}, {tail, at(4, 3), api.PIn}, {tail, at(3, 6), api.PIn}, {tail, at(5, 6), api.PIn}, {tail, at(3, 4), api.PIn},
		{teeth, at(4, 4), api.POn}, {teeth, at(3, 4), api.PIn}, {teeth, at(5, 4), api.PIn}, {teeth, at(4, 3), api.POut}, {teeth, at(-1, 4), api.POut}, {teeth, at(0, 0), api.POut},
		{step, at(1, 4), api.POn}, {step, at(4, 4), api.PIn}, {step, at(-1, 4), api.POut}, {step, at(7, 5), api.POut}, {step, at(0, 8), api.POut}, {step, at(2, 3), api.PIn},
		{eight, at(2, 2), api.POn}, {eight, at(1, 2), api.PIn}, {eight, at(3, 2), api.PIn}, {eight, at(2, 1), api.POut}, {eight, at(2, 3), api.POut},
		{slices.Repeat(square, 2), at(2, 2), api.POut}, {slices.Repeat(square, 3), at(2, 2), api.PIn}, {slices.Repeat(square, 2), at(0, 2), api.POn},
		{nil, at(0, 0), api.POut}, {[]api.P{}, at(0, 0), api.POut},
		{of(3, 3), at(3, 3), api.POn}, {of(3, 3), at(2, 3), api.POut}, {of(3, 3), at(3, 2), api.POut}, {of(3, 3), at(4, 3), api.POut},
		{of(0, 0, 4, 0), at(2, 0), api.POn}, {of(0, 0, 4, 0), at(2, 1), api.POut}, {of(0, 0, 4, 0), at(5, 0), api.POut},
		{of(0, 0, 4, 4), at(0, 2), api.POut}, {of(0, 0, 4, 4), at(1, 1), api.POn},
		{of(3, 3, 3, 3, 3, 3), at(3, 3), api.POn}, {of(3, 3, 3, 3, 3, 3), at(2, 3), api.POut},
		{thin, at(0, 0), api.PIn}, {thin, at(1, 1), api.PIn}, {thin, at(1, 0), api.POut}, {thin, at(0, 1), api.POut}, {thin, at(most, most), api.POut},
		{grid, at(0, 0), api.PIn}, {grid, at(most-1, most-1), api.PIn}, {grid, at(1-most, 1-most), api.PIn}, {grid, at(most, 3), api.POn}, {grid, at(-most, most), api.POn},
	} {
		for k := range max(len(c.l), 1) {
			l := from(c.l, k)
			if got := ring.Inside(l, c.p); got != c.want || ring.Inside(ring.Turned(l), c.p) != c.want {
				t.Errorf("%d: Inside(%v, %v) = %d, not %d", i, l, c.p, got, c.want)
			}
		}
	}
}

// Promises 13.1, 13.2: Inside of all rings of a few points, and of longer ones, is what looking another way tells.
func TestInsideOfAny(t *testing.T) {
	count := map[int]int{}
	hold := func(l []api.P, p api.P) {
		want := insideByUp(l, p)
		count[want]++
		if got := ring.Inside(l, p); got != want {
			t.Fatalf("Inside(%v, %v) = %d, not %d", l, p, got, want)
		}
	}
	corners := of(0, 0, 0, 1, 0, 2, 1, 0, 1, 1, 1, 2, 2, 0, 2, 1, 2, 2)
	for n := range 5 {
		everyRing(corners, n, func(l []api.P) {
			for _, p := range field(3) {
				hold(l, p)
			}
		})
	}
	r := noise()
	for range 2000 {
		l := some(r, 12, 7)
		for _, p := range field(8) {
			hold(l, p)
		}
	}
	for range 40 {
		l := wide(r, longest-r.Intn(3))
		for _, p := range append(wide(r, 20), l[0], l[len(l)-1]) {
			hold(l, p)
		}
	}
	if min(count[api.PIn], count[api.POn], count[api.POut]) < 1000 {
		t.Fatal("too few of a kind:", count)
	}
}

// Promise 13.2, W6: a point that is not of the grid is out of every ring of the grid, however near a ring at the bound is.
func TestBesideTheGrid(t *testing.T) {
	grid := of(-most, -most, most, -most, most, most, -most, most)
	small := of(most, most, most-1, most, most, most-1)
	numbers := []int64{0, 1, most - 1, most, -most, most + 1, -most - 1, 1 << 40, math.MaxInt64, math.MinInt64}
	for _, x := range numbers {
		for _, y := range numbers {
			if max(x, y) <= most && min(x, y) >= -most {
				continue
			}
			for _, l := range [][]api.P{grid, small, of(most, most), of(-most, -most, -most, most), of(0, 0, most, 0, 0, most)} {
				p := at(x, y)
				if got := ring.Inside(l, p); got != api.POut || ring.Inside(ring.Turned(l), p) != got || ring.Holds(l, []api.P{p}) {
					t.Errorf("Inside(%v, %v) = %d", l, p, got)
				}
			}
		}
	}
}

// Promise 13.1, W5, W6: of a ring that meets itself nowhere the area is what the points in it and on it make (Pick).
func TestAreaIsWhatLiesInside(t *testing.T) {
	for _, l := range simple(noise(), 1500, 10, 7) {
		var in, on int64
		for _, p := range field(8) {
			switch ring.Inside(l, p) {
			case api.PIn:
				in++
			case api.POn:
				on++
			}
		}
		if got := ring.Area2(l); max(got, -got) != 2*in+on-2 {
			t.Fatalf("Area2(%v) = %d, with %d points in it and %d on it", l, got, in, on)
		}
	}
}

// W5, W6: a ring that is cut in two has the area of both, and what was in it is in just one of them or on the cut.
func TestCutInTwo(t *testing.T) {
	cuts := 0
	for _, l := range simple(noise(), 800, 9, 7) {
		for k := 2; k+1 < len(l); k++ {
			a, b := l[:k+1], slices.Concat(l[k:], l[:1])
			if ring.Area2(a)+ring.Area2(b) != ring.Area2(l) {
				t.Fatalf("Area2 of %v and %v: %d and %d", a, b, ring.Area2(a), ring.Area2(b))
			}
			for _, p := range field(8) {
				whole, first, second := ring.Inside(l, p), ring.Inside(a, p), ring.Inside(b, p)
				if first == api.POn || second == api.POn {
					continue
				}
				cuts++
				if one := first != second; one != (whole == api.PIn) {
					t.Fatalf("%v: %d of %v, %d and %d of its parts", p, whole, l, first, second)
				}
			}
		}
	}
	if cuts < 1000 {
		t.Fatal("too few were asked:", cuts)
	}
}

// Promise 13.1: Holds asks for each point, PIn alone, and for one at least.
func TestHolds(t *testing.T) {
	square := of(0, 0, 4, 0, 4, 4, 0, 4)
	for i, c := range []struct {
		l, m []api.P
		is   bool
	}{
		{square, of(1, 1), true},
		{square, of(1, 1, 2, 3, 3, 3), true},
		{square, of(2, 2, 2, 2), true},
		{ring.Turned(square), of(1, 1, 2, 3), true},
		{square, of(1, 1, 0, 3), false}, // the last is on it
		{square, of(0, 3, 1, 1), false}, // the first
		{square, of(1, 1, 4, 4, 2, 2), false},
		{square, of(1, 1, 9, 9), false},
		{square, of(9, 9, 1, 1), false},
		{square, of(9, 9), false},
		{square, square, false},
		{square, nil, false}, {square, []api.P{}, false},
		{nil, of(1, 1), false}, {nil, nil, false}, {of(1, 1), of(1, 1), false}, {of(0, 0, 4, 0), of(2, 0), false},
		{of(0, 0, 9, 0, 9, 9, 5, 9, 5, 1, 4, 1, 4, 9, 0, 9), of(1, 8, 8, 8), true}, // the segment between them is not in it
		{square, of(1, 1, most+1, 1), false},
	} {
		if ring.Holds(c.l, c.m) != c.is {
			t.Errorf("%d: Holds(%v, %v) is not %v", i, c.l, c.m, c.is)
		}
	}
	r := noise()
	count := map[bool]int{}
	for range 100000 {
		l, m := some(r, 7, 8), some(r, 3, 8)
		want := len(m) > 0
		for _, p := range m {
			want = want && insideByUp(l, p) == api.PIn
		}
		if count[want]++; ring.Holds(l, m) != want {
			t.Fatalf("Holds(%v, %v) is not %v", l, m, want)
		}
	}
	if min(count[true], count[false]) < 1000 {
		t.Fatal("too few of a kind:", count)
	}
}

// Promise 13.1: Turned begins with the same point and goes the other way, whatever the points are.
func TestTurned(t *testing.T) {
	for i, c := range []struct{ l, want []api.P }{
		{nil, nil}, {[]api.P{}, nil},
		{of(1, 2), of(1, 2)},
		{of(1, 2, 3, 4), of(1, 2, 3, 4)},
		{of(1, 2, 3, 4, 5, 6), of(1, 2, 5, 6, 3, 4)},
		{of(0, 0, 4, 0, 4, 4, 0, 4), of(0, 0, 0, 4, 4, 4, 4, 0)},
		{of(0, 0, 4, 0, 4, 4, 0, 0), of(0, 0, 0, 0, 4, 4, 4, 0)}, // its first point is its last one too
		{of(3, 3, 3, 3), of(3, 3, 3, 3)},
		{of(1, 1, 1, 1, 2, 2), of(1, 1, 2, 2, 1, 1)},
		{of(most+1, 0, math.MinInt64, 7, 0, math.MaxInt64), of(most+1, 0, 0, math.MaxInt64, math.MinInt64, 7)},
	} {
		if got := ring.Turned(c.l); !slices.Equal(got, c.want) {
			t.Errorf("%d: Turned(%v) = %v", i, c.l, got)
		}
	}
	r := noise()
	for n := range 40 {
		l := wide(r, n*n)
		turned := ring.Turned(l)
		for i, p := range turned {
			if p != l[(len(l)-i)%len(l)] {
				t.Fatalf("Turned(%v) = %v", l, turned)
			}
		}
		if !slices.Equal(ring.Turned(turned), l) {
			t.Fatalf("Turned twice: %v", l)
		}
	}
}

// Promise 13.2, wrong inputs: numbers of all sizes are answered, and nothing that is handed in is changed.
func TestAnythingIsAnswered(t *testing.T) {
	r := noise()
	numbers := []int64{0, 1, -1, 5, most - 1, most, most + 1, -most, -most - 1, 1 << 32, -1 << 62, math.MaxInt64, math.MinInt64}
	wild := func() []api.P {
		l := make([]api.P, r.Intn(7))
		for i := range l {
			l[i] = at(numbers[r.Intn(len(numbers))], numbers[r.Intn(len(numbers))])
		}
		return l
	}
	for range 5000 {
		l, m := wild(), wild()
		wasL, wasM := slices.Clone(l), slices.Clone(m)
		all := len(m) > 0
		for _, p := range m {
			where := ring.Inside(l, p)
			if where != api.PIn && where != api.POn && where != api.POut || ring.Inside(ring.Turned(l), p) != where {
				t.Fatalf("Inside(%v, %v) = %d", l, p, where)
			}
			all = all && where == api.PIn
		}
		for _, p := range l {
			if where := ring.Inside(l, p); where != api.POn {
				t.Fatalf("Inside(%v, %v) = %d: it is one of its points", l, p, where)
			}
		}
		if ring.Holds(l, m) != all || ring.Area2(ring.Turned(l)) != -ring.Area2(l) || len(l) < 3 && ring.Area2(l) != 0 {
			t.Fatalf("Holds(%v, %v) = %v, Area2 %d", l, m, ring.Holds(l, m), ring.Area2(l))
		}
		if !slices.Equal(l, wasL) || !slices.Equal(m, wasM) {
			t.Fatal("changed:", wasL, l, wasM, m)
		}
	}
}

// Rule 3: what Turned tells shares nothing with what was handed in, its spare room neither.
func TestNewMemory(t *testing.T) {
	room := of(0, 0, 4, 0, 4, 4, 0, 4, 9, 9, 10, 10)
	was := slices.Clone(room)
	for n := range len(room) {
		turned := ring.Turned(room[:n])
		if !slices.Equal(room, was) {
			t.Fatal("changed:", room)
		}
		for i := range turned[:cap(turned)] {
			turned[:cap(turned)][i] = at(-1, 7)
		}
		if !slices.Equal(room, was) {
			t.Fatal("shared with what was handed in:", room)
		}
	}
}

// Promise 13.2: the longest rings are answered too, also all points of one asked of another.
func TestLongestRings(t *testing.T) {
	comb := func(width, bottom, lo, hi int64) []api.P { // teeth between lo and hi, closed at the bottom
		l := of(width, bottom, -width, bottom)
		for i := int64(0); len(l) < longest; i++ {
			l = append(l, at(i-longest/2, lo+i%2*(hi-lo)))
		}
		return l
	}
	outer, inner := comb(most, -18, -9, most), comb(most/2, -17, -12, -10)
	if len(outer) != longest || len(inner) != longest {
		t.Fatal(len(outer), len(inner))
	}
	if !ring.Holds(outer, inner) || ring.Holds(inner, outer) {
		t.Error("Holds of the longest rings:", ring.Holds(outer, inner), ring.Holds(inner, outer))
	}
	for _, l := range [][]api.P{outer, inner} {
		if want := areaByWords(l); big.NewInt(ring.Area2(l)).Cmp(want) != 0 {
			t.Errorf("Area2 = %d, not %v", ring.Area2(l), want)
		}
	}
}
