package line_test

import (
	"math"
	"math/rand"
	"slices"
	"testing"

	"terrier/api"
	"terrier/line"
	"terrier/pt"
	"terrier/seg"
)

const most = api.MaxGrid

func at(x, y int64) api.P { return api.P{X: x, Y: y} }

// of: the line through the points (n[0],n[1]), (n[2],n[3]) ..
func of(n ...int64) []api.P {
	var l []api.P
	for i := 0; i < len(n); i += 2 {
		l = append(l, at(n[i], n[i+1]))
	}
	return l
}

// row: n points side by side, each a step to the right of the one ahead.
func row(n int) []api.P {
	l := make([]api.P, n)
	for i := range l {
		l[i].X = int64(i)
	}
	return l
}

// noise is the same at each run, so that a failure comes again.
func noise() *rand.Rand { return rand.New(rand.NewSource(1)) }

// square: all points from (0,0) to (to,to).
func square(to int64) []api.P {
	var l []api.P
	for x := range to + 1 {
		for y := range to + 1 {
			l = append(l, at(x, y))
		}
	}
	return l
}

// everyLine calls do with all lines of n points out of from.
func everyLine(from []api.P, n int, do func([]api.P)) {
	l := make([]api.P, n)
	var lay func(i int)
	lay = func(i int) {
		if i == n {
			do(l)
			return
		}
		for _, p := range from {
			l[i] = p
			lay(i + 1)
		}
	}
	lay(0)
}

// some: a line of up to n points from (0,0) to (to,to).
func some(r *rand.Rand, n int, to int64) []api.P {
	l := make([]api.P, r.Intn(n+1))
	for i := range l {
		l[i] = at(r.Int63n(to+1), r.Int63n(to+1))
	}
	if len(l) > 2 && r.Intn(3) == 0 {
		l[len(l)-1] = l[0]
	}
	return l
}

// wild: a line with numbers of all sizes, those beyond the grid too.
func wild(r *rand.Rand) []api.P {
	numbers := []int64{0, 1, -1, 5, most - 1, most, most + 1, -most, -most - 1, 1 << 32, -1 << 62, math.MaxInt64, math.MinInt64}
	l := make([]api.P, r.Intn(7))
	for i := range l {
		l[i] = at(numbers[r.Intn(len(numbers))], numbers[r.Intn(len(numbers))])
	}
	return l
}

// simpleByWords goes through all pairs of places, either way round, as promise 12.1 has them.
func simpleByWords(l []api.P) bool {
	n := len(l) - 1
	for i := range max(n, 0) {
		if l[i] == l[i+1] {
			return false
		}
		for j := range n {
			if i == j {
				continue
			}
			want := api.SNone
			if i-j == 1 || j-i == 1 {
				want = api.SEnd
			}
			if closed := l[0] == l[n] && n > 2; closed && (i == 0 && j == n-1 || j == 0 && i == n-1) {
				want = api.SEnd
			}
			if seg.Relate(l[i], l[i+1], l[j], l[j+1]) != want {
				return false
			}
		}
	}
	return true
}

// Promise 12.1: what Ok, Closed and Simple are, and what each of them is not.
func TestKinds(t *testing.T) {
	for i, c := range []struct {
		l                  []api.P
		ok, closed, simple bool
	}{
		{nil, false, false, true},
		{[]api.P{}, false, false, true},
		{of(3, 3), false, false, true},
		{of(0, 0, 1, 1), true, false, true},
		{of(2, 2, 2, 2), false, false, false}, // the same side by side; two points are not closed
		{of(2, 2, 2, 2, 2, 2), false, true, false},
		{of(0, 0, 4, 0, 4, 0, 8, 0), false, false, false},
		{of(0, 0, 4, 0, 0, 0), false, true, false}, // closed, of three points
		{of(0, 0, 4, 0, 8, 0), true, false, true},  // straight on
		{of(0, 0, 4, 0, 2, 0), false, false, false},
		{of(0, 0, 4, 0, -2, 0), false, false, false},
		{of(0, 0, 4, 0, 4, 4, 0, 0), true, true, true},
		{of(0, 0, 4, 0, 2, 0, 0, 0), false, true, false}, // closed, without any area
		{of(0, 0, 4, 0, 4, 4, 0, 4, 0, 0), true, true, true},
		{of(0, 0, 4, 4, 4, 0, 0, 4, 0, 0), false, true, false},        // an eight
		{of(0, 0, 4, 0, 4, 4, 2, -2), false, false, false},            // SCross
		{of(0, 0, 4, 0, 4, 4, 2, 0), false, false, false},             // STouch by the last point
		{of(2, 0, 2, 4, 4, 4, 4, 0, 0, 0), false, false, false},       // STouch by the first point
		{of(0, 0, 4, 0, 4, 4, 2, 0, 0, 4), false, false, false},       // STouch by a point in its midst
		{of(0, 0, 4, 0, 4, 4, 0, 0, 0, 5), false, false, false},       // its first point once more
		{of(5, 5, 0, 0, 4, 0, 4, 4, 0, 0), false, false, false},       // its last point once more
		{of(9, 9, 0, 0, 4, 0, 4, 4, 0, 0, 9, 0), false, false, false}, // SEnd, but not side by side
		{of(0, 0, 4, 0, 4, 1, 3, 1, 3, 0, 1, 0), false, false, false}, // SOver, not side by side
		{of(0, 0, 4, 0, 4, 4, 2, 4, 0, 0, 4, 0), false, false, false}, // its first segment once more
		{of(-most, -most, most, -most, most, most, -most, most, -most, -most), true, true, true},
		{of(-most, -most, most, most-1, most, most, -most, 1-most), true, false, true}, // apart by less than a step
		{of(0, 0, most+1, 0), false, false, true},
		{of(0, 0, 0, -most-1), false, false, true},
		{of(0, math.MinInt64, 0, 0), false, false, true},
		{row(64), true, false, true},
		{row(65), false, false, true},
		{append(row(63), at(30, 9)), true, false, true},
		{append(row(63), at(62, 9), at(30, 9)), false, false, true},
		{append(row(62), at(61, 9), at(0, 0)), true, true, true},
		{append(row(62), at(61, 9), at(30, 0)), false, false, false},
	} {
		ok, closed, simple := line.Ok(c.l), line.Closed(c.l), line.Simple(c.l)
		if ok != c.ok || closed != c.closed || simple != c.simple {
			t.Errorf("%d: %v: Ok %v, Closed %v, Simple %v", i, c.l, ok, closed, simple)
		}
	}
}

// Promises 12.1, 12.3: Simple and Ok of all lines of a few points, either way round.
func TestSimpleOfAny(t *testing.T) {
	hold := func(l []api.P) {
		want := simpleByWords(l)
		if line.Simple(l) != want || line.Simple(line.Reverse(l)) != want {
			t.Fatalf("Simple(%v) is not %v", l, want)
		}
		if line.Ok(l) != (want && len(l) > 1) {
			t.Fatalf("Ok(%v) = %v", l, line.Ok(l))
		}
	}
	for n := range 5 {
		everyLine(square(2), n, hold)
	}
	r := noise()
	for range 20000 {
		hold(some(r, 9, 6))
	}
}

// Promise 12.1: Reverse and Join, of nothing too, and Same of what they answer.
func TestReverseAndJoin(t *testing.T) {
	a := of(1, 2, 3, 4, 5, 6)
	for i, c := range []struct{ got, want []api.P }{
		{line.Reverse(nil), nil},
		{line.Reverse(of(7, 8)), of(7, 8)},
		{line.Reverse(a), of(5, 6, 3, 4, 1, 2)},
		{line.Reverse(of(1, 1, 2, 2)), of(2, 2, 1, 1)},
		{line.Join(nil, nil), nil},
		{line.Join(a, nil), a},
		{line.Join(nil, a), a},
		{line.Join(a, of(5, 6)), a},
		{line.Join(of(1, 2), a), a},
		{line.Join(a, of(5, 6, 9, 9)), of(1, 2, 3, 4, 5, 6, 9, 9)},
		{line.Join(a, of(9, 9, 5, 6)), of(1, 2, 3, 4, 5, 6, 9, 9, 5, 6)},
		{line.Join(a, of(1, 2, 7, 7)), of(1, 2, 3, 4, 5, 6, 1, 2, 7, 7)}, // a's first, not its last
		{line.Join(a, of(5, 7, 7, 7)), of(1, 2, 3, 4, 5, 6, 5, 7, 7, 7)},
		{line.Join(a, of(4, 6, 7, 7)), of(1, 2, 3, 4, 5, 6, 4, 6, 7, 7)},
		{line.Join(a, of(5, 6, 5, 6, 7, 7)), of(1, 2, 3, 4, 5, 6, 5, 6, 7, 7)}, // one of them alone
		{line.Join(row(64), row(64)), append(row(64), row(64)...)},
		{line.Join(of(most, 0), of(most+1, 0, 0, 0)), of(most, 0, most+1, 0, 0, 0)},
	} {
		if !slices.Equal(c.got, c.want) {
			t.Errorf("%d: %v, not %v", i, c.got, c.want)
		}
	}
}

// Promise 12.1: Same goes point by point, whatever the numbers are.
func TestSame(t *testing.T) {
	a := of(1, 2, 3, 4)
	for i, c := range []struct {
		a, b []api.P
		is   bool
	}{
		{nil, nil, true}, {nil, []api.P{}, true}, {nil, of(0, 0), false},
		{a, of(1, 2, 3, 4), true}, {a, of(3, 4, 1, 2), false}, {a, of(1, 2, 3, 5), false}, {a, of(1, 2, 4, 4), false},
		{a, a[:1], false}, {a, of(1, 2, 3, 4, 3, 4), false},
		{of(most, 0), of(most+1, 0), false}, {of(math.MaxInt64, 0), of(math.MaxInt64, 0), true},
	} {
		if line.Same(c.a, c.b) != c.is || line.Same(c.b, c.a) != c.is {
			t.Errorf("%d: Same(%v, %v) is not %v", i, c.a, c.b, c.is)
		}
	}
}

// Promise 12.2: At is the first segment's number; Split cuts there, with p once at each side.
func TestAtAndSplit(t *testing.T) {
	bent := of(0, 0, 4, 0, 4, 4, 8, 8)
	ring := of(0, 0, 4, 0, 4, 4, 0, 0)
	eight := of(0, 0, 4, 4, 4, 0, 0, 4) // meets itself at (2,2)
	back := of(0, 0, 4, 0, 4, 4, 4, 0, 8, 0)
	for i, c := range []struct {
		l    []api.P
		p    api.P
		at   int
		a, b []api.P
	}{
		{of(0, 0, 4, 0), at(1, 0), 0, of(0, 0, 1, 0), of(1, 0, 4, 0)},
		{bent, at(4, 0), 0, of(0, 0, 4, 0), of(4, 0, 4, 4, 8, 8)},
		{bent, at(4, 1), 1, of(0, 0, 4, 0, 4, 1), of(4, 1, 4, 4, 8, 8)},
		{bent, at(4, 4), 1, of(0, 0, 4, 0, 4, 4), of(4, 4, 8, 8)},
		{bent, at(7, 7), 2, of(0, 0, 4, 0, 4, 4, 7, 7), of(7, 7, 8, 8)},
		{bent, at(0, 0), 0, nil, nil},
		{bent, at(8, 8), 2, nil, nil},
		{bent, at(9, 9), -1, nil, nil}, // straight on from its end
		{bent, at(-1, 0), -1, nil, nil},
		{bent, at(5, 0), -1, nil, nil},
		{bent, at(4, 5), -1, nil, nil},
		{ring, at(0, 0), 0, nil, nil},
		{ring, at(4, 4), 1, of(0, 0, 4, 0, 4, 4), of(4, 4, 0, 0)},
		{ring, at(1, 1), 2, of(0, 0, 4, 0, 4, 4, 1, 1), of(1, 1, 0, 0)},
		{eight, at(2, 2), 0, of(0, 0, 2, 2), of(2, 2, 4, 4, 4, 0, 0, 4)},
		{back, at(4, 0), 0, of(0, 0, 4, 0), of(4, 0, 4, 4, 4, 0, 8, 0)},
		{back, at(4, 2), 1, of(0, 0, 4, 0, 4, 2), of(4, 2, 4, 4, 4, 0, 8, 0)},
		{of(0, 0, 4, 0, 0, 0, 0, 4), at(0, 0), 0, nil, nil}, // its first, though it comes again
		{of(3, 3, 3, 3, 3, 5), at(3, 4), 1, of(3, 3, 3, 3, 3, 4), of(3, 4, 3, 5)},
		{nil, at(0, 0), -1, nil, nil},
		{of(1, 1), at(1, 1), -1, nil, nil}, // a point alone is no segment
		{of(1, 1, 1, 1), at(1, 1), 0, nil, nil},
		{of(-most, -most, most, most), at(0, 0), 0, of(-most, -most, 0, 0), of(0, 0, most, most)},
		{of(-most, -most, most, most-1), at(0, 0), -1, nil, nil}, // beside it by half a step
	} {
		if got := line.At(c.l, c.p); got != c.at {
			t.Errorf("%d: At = %d", i, got)
		}
		a, b, ok := line.Split(c.l, c.p)
		if !slices.Equal(a, c.a) || !slices.Equal(b, c.b) || ok != (c.a != nil) {
			t.Errorf("%d: Split = %v, %v, %v", i, a, b, ok)
		}
	}
}

// Promises 12.2, 12.3: a point that is not of the grid is on no line of the grid, however near a line at the bound is.
func TestBesideTheGrid(t *testing.T) {
	for _, c := range []struct {
		l []api.P
		p api.P
	}{
		{of(0, 0, most, 0), at(most+1, 0)},
		{of(0, 0, most, 0), at(math.MaxInt64, 0)},
		{of(most, 0, most, 9), at(most+1, 5)},
		{of(0, -most, 9, -most), at(5, math.MinInt64)},
		{of(-most, 0, -most, 9), at(-most-1, 5)},
		{of(0, most, 9, most), at(5, most+1)},
		{of(0, 0, most, most), at(most+1, most+1)},
	} {
		a, b, ok := line.Split(c.l, c.p)
		if got := line.At(c.l, c.p); got != -1 || len(a)+len(b) != 0 || ok {
			t.Errorf("%v of %v: At %d, Split %v, %v, %v", c.p, c.l, got, a, b, ok)
		}
	}
	if got := line.At(of(0, 0, most+9, 0), at(most+9, 0)); got != 0 {
		t.Errorf("At of a line's own end = %d", got)
	}
}

// Promise 12.2: At is the first of the segments that have the point, of any line and any point.
func TestAtOfAny(t *testing.T) {
	r := noise()
	for range 3000 {
		l := some(r, 8, 5)
		for _, p := range square(5) {
			want := -1
			for i := len(l) - 2; i >= 0; i-- {
				if pt.On(l[i], l[i+1], p) {
					want = i
				}
			}
			if got := line.At(l, p); got != want {
				t.Fatalf("At(%v, %v) = %d, not %d", l, p, got, want)
			}
		}
	}
}

// Promise 12.2, W3: what an Ok line is split into is Ok, meets at ends alone, and joins to that line with p on it.
func TestSplitLeavesItSound(t *testing.T) {
	r := noise()
	split := 0
	for range 20000 {
		l := some(r, 8, 6)
		if !line.Ok(l) {
			continue
		}
		for _, p := range square(6) {
			a, b, ok := line.Split(l, p)
			if want := line.At(l, p) >= 0 && p != l[0] && p != l[len(l)-1]; ok != want {
				t.Fatalf("Split(%v, %v) = %v", l, p, ok)
			}
			if !ok {
				continue
			}
			split++
			if !line.Ok(a) || !line.Ok(b) || !line.Apart(a, b) || a[len(a)-1] != p || b[0] != p {
				t.Fatalf("Split(%v, %v) = %v, %v", l, p, a, b)
			}
			whole := line.Join(a, b)
			if !slices.Contains(l, p) {
				whole = slices.DeleteFunc(whole, func(q api.P) bool { return q == p })
			}
			if !line.Same(whole, l) {
				t.Fatalf("Split(%v, %v) joins to %v", l, p, whole)
			}
		}
	}
	if split < 1000 {
		t.Fatal("too few were split:", split)
	}
	if a, b, ok := line.Split(row(64), at(62, 0)); len(a) != 63 || len(b) != 2 || !ok {
		t.Error("Split of the longest line:", a, b, ok)
	}
}

// apartByWords: by which point two segments Relate by SEnd is told by what their ends are.
func apartByWords(a, b []api.P) bool {
	ends := func(l []api.P) []api.P { return []api.P{l[0], l[len(l)-1]} }
	for i := range a[1:] {
		for j := range b[1:] {
			switch seg.Relate(a[i], a[i+1], b[j], b[j+1]) {
			case api.SNone:
			case api.SEnd:
				p := a[i]
				if p != b[j] && p != b[j+1] {
					p = a[i+1]
				}
				if !slices.Contains(ends(a), p) || !slices.Contains(ends(b), p) {
					return false
				}
			default:
				return false
			}
		}
	}
	return true
}

// Promise 12.2: Apart lines meet at ends of both alone, in whichever order and whichever way they come.
func TestApart(t *testing.T) {
	bent := of(0, 0, 4, 0, 4, 4, 8, 8)
	ring := of(0, 0, 4, 0, 4, 4, 0, 0)
	for i, c := range []struct {
		a, b []api.P
		is   bool
	}{
		{bent, of(0, 1, 0, 9), true},
		{bent, of(20, 0, 20, 9), true}, // not even their boxes meet
		{bent, of(8, 8, 9, 0), true},
		{bent, of(0, 0, -1, 5, 8, 8), true}, // at both ends
		{bent, of(4, 0, 9, 0), false},       // an end of one, a point in the other's midst
		{bent, of(9, 0, 4, 4, 9, 4), false}, // no end of either
		{bent, of(7, 9, 8, 8, 9, 7), false},
		{bent, of(5, 5, 9, 0), false},                     // STouch
		{bent, of(2, -1, 2, 1), false},                    // SCross
		{bent, of(2, 2, 8, 8, 9, 9), false},               // SOver
		{bent, of(8, 8, 5, 9, 5, 5), false},               // apart at one end, not at the other
		{bent, of(8, 8, 9, 8, 9, -1, 2, -1, 2, 0), false}, // by its very last segment
		{bent, bent, false},
		{of(0, 0, 4, 0), of(4, 0, 0, 0), false},
		{of(0, 0, 4, 0), of(0, 0, 2, 3, 4, 0), true},
		{of(0, 0, 4, 0), of(4, 0, 9, 0), true},
		{ring, of(0, 0, -9, 9), true},
		{ring, of(0, 0, 9, 9), false},
		{ring, of(4, 0, 9, 0), false}, // no end of the ring
		{ring, of(3, 1, 3, 2), true},  // inside
		{ring, of(0, 0, 3, 1, 3, 2, 0, 0), true},
		{ring, of(0, 0, -4, 0, -4, -4, 0, 0), true},
		{of(-most, -most, most, most-1), of(0, 0, most, most), true}, // apart by less than a step
		{of(-most, -most, most, most), of(most, most, most, -most), true},
		{nil, nil, true}, {bent, nil, true}, {bent, of(4, 0), true}, // without segments
	} {
		for _, a := range [][]api.P{c.a, line.Reverse(c.a)} {
			for _, b := range [][]api.P{c.b, line.Reverse(c.b)} {
				if line.Apart(a, b) != c.is || line.Apart(b, a) != c.is {
					t.Errorf("%d: Apart(%v, %v) is not %v", i, a, b, c.is)
				}
			}
		}
	}
}

// Promises 12.2, 12.3: Apart of any two Ok lines.
func TestApartOfAny(t *testing.T) {
	r := noise()
	var l [][]api.P
	for len(l) < 400 {
		if c := some(r, 6, 7); line.Ok(c) {
			l = append(l, c)
		}
	}
	count := map[bool]int{}
	for _, a := range l {
		for _, b := range l {
			want := apartByWords(a, b)
			if got := line.Apart(a, b); got != want {
				t.Fatalf("Apart(%v, %v) = %v", a, b, got)
			}
			count[want]++
		}
	}
	if min(count[true], count[false]) < 1000 {
		t.Fatal("too few of a kind:", count)
	}
}

// Promise 12.3, wrong inputs: numbers of all sizes are answered, and nothing that is handed in is changed.
func TestAnythingIsAnswered(t *testing.T) {
	r := noise()
	for range 5000 {
		a, b := wild(r), wild(r)
		wasA, wasB := slices.Clone(a), slices.Clone(b)
		for _, p := range slices.Concat(a, b) {
			i := line.At(a, p)
			if first, second, ok := line.Split(a, p); ok && (i < 0 || first[len(first)-1] != p || second[0] != p) || !ok && len(first)+len(second) > 0 {
				t.Fatalf("Split(%v, %v) = %v, %v, %v", a, p, first, second, ok)
			}
		}
		if line.Ok(a) && !line.Simple(a) || line.Simple(a) != simpleByWords(a) {
			t.Fatalf("Ok(%v) = %v, Simple %v", a, line.Ok(a), line.Simple(a))
		}
		if !line.Same(line.Reverse(line.Reverse(a)), a) || line.Apart(a, b) != line.Apart(b, a) {
			t.Fatal(a, b)
		}
		if joined := line.Join(a, b); !slices.Equal(joined[:len(a)], a) {
			t.Fatalf("Join(%v, %v) = %v", a, b, joined)
		}
		if !slices.Equal(a, wasA) || !slices.Equal(b, wasB) {
			t.Fatal("changed:", wasA, a, wasB, b)
		}
	}
}

// Promise 12.3, rule 3: what is told shares nothing with what was handed in, nor with what is told beside it, its spare room neither.
func TestNewMemory(t *testing.T) {
	room := of(0, 0, 4, 0, 4, 4, 8, 8, 9, 9, 10, 10)
	was := slices.Clone(room)
	given, only := room[:4], room[4:5]
	cutA, cutB, _ := line.Split(given, at(4, 2))
	atA, atB, _ := line.Split(given, at(4, 4))
	lists := [][]api.P{
		line.Reverse(given), line.Reverse(only), line.Join(given, only), line.Join(given, nil), line.Join(nil, given),
		line.Join(given, given[3:]), cutA, cutB, atA, atB,
	}
	if !slices.Equal(room, was) {
		t.Fatal("changed:", room)
	}
	for i, l := range lists {
		for k := range l[:cap(l)] {
			l[:cap(l)][k] = at(int64(-1-i), 7)
		}
	}
	if !slices.Equal(room, was) {
		t.Error("shared with what was handed in:", room)
	}
	for i, l := range lists {
		if slices.ContainsFunc(l[:cap(l)], func(p api.P) bool { return p != at(int64(-1-i), 7) }) {
			t.Errorf("list %d shares with another: %v", i, l)
		}
	}
}
