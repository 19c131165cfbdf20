package pack_test

import (
	"bytes"
	"encoding/binary"
	"encoding/hex"
	"hash/crc32"
	"math"
	"math/rand"
	"slices"
	"strings"
	"testing"

	"terrier/api"
	"terrier/pack"
)

// unhex reads bytes told by two hexadecimal digits each.
func unhex(t testing.TB, s string) []byte {
	t.Helper()
	b, err := hex.DecodeString(strings.ReplaceAll(s, " ", ""))
	if err != nil {
		t.Fatal(err)
	}
	return b
}

// noise is the same at each run, so that a failure comes again.
func noise() *rand.Rand { return rand.New(rand.NewSource(1)) }

func noiseBytes(r *rand.Rand, most int) []byte {
	b := make([]byte, r.Intn(most+1))
	r.Read(b)
	return b
}

// edgeNumbers: about each number at which the count of bytes changes, and the two ends.
func edgeNumbers() []uint64 {
	l := []uint64{0, 300, math.MaxUint64, math.MaxUint64 - 1}
	for s := range 64 {
		l = append(l, 1<<s-1, 1<<s, 1<<s+1)
	}
	return l
}

// Promise 1.1: how numbers are written.
func TestNumbersWritten(t *testing.T) {
	for _, c := range []struct {
		x    uint64
		want string
	}{
		{0, "00"}, {1, "01"}, {127, "7f"}, {128, "80 01"}, {300, "ac 02"},
		{16383, "ff 7f"}, {16384, "80 80 01"}, {1 << 62, "80 80 80 80 80 80 80 80 40"},
		{1<<63 - 1, "ff ff ff ff ff ff ff ff 7f"}, {1 << 63, "80 80 80 80 80 80 80 80 80 01"},
		{math.MaxUint64, "ff ff ff ff ff ff ff ff ff 01"},
	} {
		if got := pack.Uvar(c.x); !bytes.Equal(got, unhex(t, c.want)) {
			t.Errorf("Uvar(%d) = % x, want %s", c.x, got, c.want)
		}
	}
	for _, x := range edgeNumbers() {
		if got, want := pack.Uvar(x), binary.AppendUvarint(nil, x); !bytes.Equal(got, want) {
			t.Errorf("Uvar(%d) = % x, want % x", x, got, want)
		}
		if got, want := pack.Int(int64(x)), binary.AppendVarint(nil, int64(x)); !bytes.Equal(got, want) {
			t.Errorf("Int(%d) = % x, want % x", int64(x), got, want)
		}
	}
}

// Promise 1.1: the order 0, -1, 1, -2 of numbers with a sign, and its far ends.
func TestSignedNumbersWritten(t *testing.T) {
	for i, x := range []int64{0, -1, 1, -2, 2, -3} {
		if got := pack.Int(x); !bytes.Equal(got, []byte{byte(i)}) {
			t.Errorf("Int(%d) = % x, want %02x", x, got, i)
		}
	}
	for x, want := range map[int64]string{
		63: "7e", -64: "7f", 64: "80 01", -65: "81 01",
		math.MaxInt64: "fe ff ff ff ff ff ff ff ff 01",
		math.MinInt64: "ff ff ff ff ff ff ff ff ff 01",
	} {
		if got := pack.Int(x); !bytes.Equal(got, unhex(t, want)) {
			t.Errorf("Int(%d) = % x, want %s", x, got, want)
		}
	}
}

// Promise 1.1: wrong numbers; the first fault from the first byte on is told, with noughts beside it.
func TestWrongNumbers(t *testing.T) {
	nines := strings.Repeat("ff ", 9)
	for _, c := range []struct {
		in   string
		want api.Errno
	}{
		{"", api.ErrTorn}, {"80", api.ErrTorn}, {"ff", api.ErrTorn}, {"80 80", api.ErrTorn}, {nines, api.ErrTorn},
		{"80 00", api.ErrForm}, {"ff 00", api.ErrForm}, {"80 80 00", api.ErrForm}, {"80 00 80", api.ErrForm}, {nines + "00", api.ErrForm},
		{nines + "02", api.ErrBig}, {nines + "7f", api.ErrBig}, {nines + "80", api.ErrBig}, {nines + "81", api.ErrBig}, {nines + "ff", api.ErrBig},
		{nines + "80 00", api.ErrBig}, {nines + "80 01", api.ErrBig}, {nines + nines, api.ErrBig},
	} {
		b := unhex(t, c.in)
		if x, n, e := pack.Var(b); x != 0 || n != 0 || e != c.want {
			t.Errorf("Var(%s) = %d, %d, %d, want error %d", c.in, x, n, e, c.want)
		}
		if x, n, e := pack.IntOf(b); x != 0 || n != 0 || e != c.want {
			t.Errorf("IntOf(%s) = %d, %d, %d, want error %d", c.in, x, n, e, c.want)
		}
	}
	if x, n, e := pack.Var(nil); x != 0 || n != 0 || e != api.ErrTorn {
		t.Errorf("Var(nil) = %d, %d, %d", x, n, e)
	}
}

// Promise 1.1: whatever Var takes, Uvar writes back to the byte, so each number has one form.
func TestOneForm(t *testing.T) {
	for i := range 1 << 16 {
		b := []byte{byte(i >> 8), byte(i), 1}
		x, n, e := pack.Var(b)
		if e == api.OK && !bytes.Equal(pack.Uvar(x), b[:n]) {
			t.Fatalf("Var(% x) = %d, %d", b, x, n)
		}
		y, m, f := pack.IntOf(b)
		if m != n || f != e || e == api.OK && !bytes.Equal(pack.Int(y), b[:m]) {
			t.Fatalf("IntOf(% x) = %d, %d, %d", b, y, m, f)
		}
	}
}

// Promise 1.2: how parts are put together.
func TestJoin(t *testing.T) {
	long := bytes.Repeat([]byte{7}, 128)
	for _, c := range []struct {
		parts [][]byte
		want  []byte
	}{
		{nil, nil},
		{[][]byte{nil}, []byte{0}},
		{[][]byte{{}, nil}, []byte{0, 0}},
		{[][]byte{{9}, {}, {8, 7}}, []byte{1, 9, 0, 2, 8, 7}},
		{[][]byte{long[:127]}, append([]byte{127}, long[:127]...)},
		{[][]byte{long}, append([]byte{0x80, 1}, long...)},
	} {
		if got := pack.Join(c.parts...); !bytes.Equal(got, c.want) {
			t.Errorf("Join(%v) = % x, want % x", c.parts, got, c.want)
		}
	}
}

// Promise 1.2: parts taken apart, and wrong ones.
func TestSplit(t *testing.T) {
	l, e := pack.Split(unhex(t, "01 09 00 02 08 07"))
	if want := [][]byte{{9}, {}, {8, 7}}; e != api.OK || !slices.EqualFunc(l, want, bytes.Equal) {
		t.Errorf("%v, %d", l, e)
	}
	for _, none := range [][]byte{nil, {}} {
		if l, e := pack.Split(none); len(l) != 0 || e != api.OK {
			t.Errorf("of nothing: %v, %d", l, e)
		}
	}
	nines := strings.Repeat("ff ", 9)
	for _, c := range []struct {
		in   string
		want api.Errno
	}{
		{"01", api.ErrTorn}, {"02 61", api.ErrTorn}, {"80", api.ErrTorn}, {"01 61 80", api.ErrTorn}, {"01 61 02 62", api.ErrTorn},
		{"80 80 80 80 80 80 80 80 80 01 61", api.ErrTorn}, {nines + "01 61", api.ErrTorn}, {"ff ff ff ff ff ff ff ff 7f 61", api.ErrTorn},
		{"80 00", api.ErrForm}, {"81 00 61", api.ErrForm}, {"01 61 80 00", api.ErrForm}, {"01 61 80 00 02", api.ErrForm},
		{nines + "02", api.ErrBig}, {"00 " + nines + "80", api.ErrBig},
	} {
		if l, e := pack.Split(unhex(t, c.in)); l != nil || e != c.want {
			t.Errorf("Split(%s) = %v, %d, want error %d", c.in, l, e, c.want)
		}
	}
}

// Promise 1.2: the sum is that of IEEE 802.3.
func TestCRC(t *testing.T) {
	if got := pack.CRC([]byte("123456789")); got != 0xcbf43926 {
		t.Errorf("%08x", got)
	}
	if got := pack.CRC(nil); got != 0 {
		t.Errorf("of nothing: %08x", got)
	}
	for c := range 256 {
		if got, want := pack.CRC([]byte{byte(c)}), crc32.ChecksumIEEE([]byte{byte(c)}); got != want {
			t.Errorf("of %02x: %08x, want %08x", c, got, want)
		}
	}
	r := noise()
	for range 500 {
		b := noiseBytes(r, 600)
		if got, want := pack.CRC(b), crc32.ChecksumIEEE(b); got != want {
			t.Fatalf("of % x: %08x, want %08x", b, got, want)
		}
	}
}

// Promise 1.2: a seal stands behind, the highest byte first.
func TestSeal(t *testing.T) {
	if got := pack.Seal([]byte("123456789")); string(got) != "123456789\xcb\xf4\x39\x26" {
		t.Errorf("% x", got)
	}
	if got := pack.Seal(nil); !bytes.Equal(got, make([]byte, 4)) {
		t.Errorf("of nothing: % x", got)
	}
}

// Promise 1.2: what was sealed is opened; what is too short, or was changed by a bit anywhere, is not.
func TestOpen(t *testing.T) {
	for n := range 4 {
		if x, e := pack.Open(make([]byte, n)); x != nil || e != api.ErrTorn {
			t.Errorf("of %d bytes: %v, %d", n, x, e)
		}
	}
	if x, e := pack.Open(make([]byte, 4)); len(x) != 0 || e != api.OK {
		t.Errorf("of an empty one: %v, %d", x, e)
	}
	sealed := pack.Seal([]byte("terrier"))
	if x, e := pack.Open(sealed); string(x) != "terrier" || e != api.OK {
		t.Errorf("%q, %d", x, e)
	}
	for i := range len(sealed) * 8 {
		b := bytes.Clone(sealed)
		b[i/8] ^= 1 << (i % 8)
		if x, e := pack.Open(b); x != nil || e != api.ErrForm {
			t.Errorf("bit %d: %v, %d", i, x, e)
		}
	}
	for n := 4; n < len(sealed); n++ {
		if x, e := pack.Open(sealed[:n]); x != nil || e != api.ErrForm {
			t.Errorf("cut at %d: %v, %d", n, x, e)
		}
	}
}

// Promise 1.3: a number is read as it was written, whatever follows.
func TestNumbersReadBack(t *testing.T) {
	r := noise()
	numbers := edgeNumbers()
	for range 2000 {
		numbers = append(numbers, r.Uint64()>>r.Intn(64))
	}
	tails := [][]byte{nil, {0}, {0x80}, {0xff, 0xff, 0xff}, bytes.Repeat([]byte{0xff}, 20), noiseBytes(r, 20)}
	for _, x := range numbers {
		for _, tail := range tails {
			b := pack.Uvar(x)
			if y, n, e := pack.Var(append(bytes.Clone(b), tail...)); y != x || n != len(b) || e != api.OK {
				t.Fatalf("%d, then % x: %d, %d, %d", x, tail, y, n, e)
			}
			for _, s := range []int64{int64(x), -int64(x)} {
				b := pack.Int(s)
				if y, n, e := pack.IntOf(append(bytes.Clone(b), tail...)); y != s || n != len(b) || e != api.OK {
					t.Fatalf("%d, then % x: %d, %d, %d", s, tail, y, n, e)
				}
			}
		}
	}
}

// Promise 1.3: parts and sealed texts are read as they were written; further parts may follow the parts.
func TestPartsReadBack(t *testing.T) {
	r := noise()
	for range 500 {
		parts := make([][]byte, r.Intn(12))
		for i := range parts {
			parts[i] = noiseBytes(r, 300)
		}
		joined := pack.Join(parts...)
		if l, e := pack.Split(joined); e != api.OK || !slices.EqualFunc(l, parts, bytes.Equal) {
			t.Fatalf("%v: %v, %d", parts, l, e)
		}
		l, e := pack.Split(append(bytes.Clone(joined), pack.Join([]byte{0xff}, nil)...))
		if want := append(slices.Clone(parts), []byte{0xff}, nil); e != api.OK || !slices.EqualFunc(l, want, bytes.Equal) {
			t.Fatalf("%v and more: %v, %d", parts, l, e)
		}
		if b, e := pack.Open(pack.Seal(joined)); e != api.OK || !bytes.Equal(b, joined) {
			t.Fatalf("% x: % x, %d", joined, b, e)
		}
	}
}

// readAll hands b to each call that reads, and holds the answers to what every answer has.
func readAll(t *testing.T, b []byte) {
	t.Helper()
	kept := bytes.Clone(b)
	if x, n, e := pack.Var(b); n < 0 || n > min(10, len(b)) || e != api.OK && (x != 0 || n != 0) {
		t.Fatalf("Var(% x) = %d, %d, %d", b, x, n, e)
	}
	if x, n, e := pack.IntOf(b); n < 0 || n > min(10, len(b)) || e != api.OK && (x != 0 || n != 0) {
		t.Fatalf("IntOf(% x) = %d, %d, %d", b, x, n, e)
	}
	l, e := pack.Split(b)
	if e == api.OK && !bytes.Equal(pack.Join(l...), b) || e != api.OK && l != nil {
		t.Fatalf("Split(% x) = %v, %d", b, l, e)
	}
	x, e := pack.Open(b)
	if e == api.OK && !bytes.Equal(pack.Seal(x), b) || e != api.OK && x != nil {
		t.Fatalf("Open(% x) = % x, %d", b, x, e)
	}
	if !bytes.Equal(b, kept) {
		t.Fatalf("% x was changed to % x", kept, b)
	}
}

// Promise 1.4: no bytes make a call panic: all short ones, and many longer ones.
func TestNoPanic(t *testing.T) {
	readAll(t, nil)
	for i := range 1 << 16 {
		b := []byte{byte(i), byte(i >> 8)}
		readAll(t, b[:1])
		readAll(t, b)
	}
	r := noise()
	for range 20000 {
		b := noiseBytes(r, 24)
		readAll(t, b)
		for i := range b {
			b[i] |= 0x80 // numbers without an end are rare among evenly spread bytes
			if r.Intn(4) == 0 {
				b[i] &= 3
			}
		}
		readAll(t, b)
	}
}

// scribble changes what a caller owns of an answer: its bytes and its spare room.
func scribble(b []byte) {
	b = b[:cap(b)]
	for i := range b {
		b[i] ^= 0xff
	}
}

// Rule 3: what is handed in, and the spare room behind it, is neither changed nor shared.
func TestNothingShared(t *testing.T) {
	room := []byte{2, 'a', 'b', 1, 'c', 0, 'x', 'x', 'x', 'x', 'x', 'x'}
	kept := bytes.Clone(room)
	in := room[:6]
	scribble(pack.Seal(in))
	scribble(pack.Join(in))
	scribble(pack.Join(in, in)[:3])
	parts, _ := pack.Split(in)
	scribble(parts[0])
	if string(parts[1]) != "c" || len(parts[2]) != 0 {
		t.Errorf("parts share memory: %q", parts)
	}
	scribble(parts[1])
	scribble(parts[2])
	if !bytes.Equal(room, kept) {
		t.Errorf("% x was changed to % x", kept, room)
	}
	sealed := append(pack.Seal(in), 'y', 'y')
	keptSeal := bytes.Clone(sealed)
	opened, _ := pack.Open(sealed[:10])
	scribble(opened)
	if !bytes.Equal(sealed, keptSeal) {
		t.Errorf("% x was changed to % x", keptSeal, sealed)
	}
	scribble(pack.Uvar(300))
	scribble(pack.Int(-3))
	if !bytes.Equal(pack.Uvar(300), []byte{0xac, 2}) || !bytes.Equal(pack.Int(-3), []byte{5}) {
		t.Error("an answer hangs on an earlier one")
	}
}
