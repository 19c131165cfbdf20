package wal_test

import (
	"bytes"
	"fmt"
	"math"
	"math/rand"
	"slices"
	"testing"

	"terrier/api"
	"terrier/disk"
	"terrier/pack"
	"terrier/page"
	"terrier/wal"
)

// noise is the same at each run, so that a failure comes again.
func noise() *rand.Rand { return rand.New(rand.NewSource(1)) }

// text: so many bytes that hang on c and on where they stand, so that a shift or a mixture would show.
func text(c byte, size int) []byte {
	b := make([]byte, size)
	for i := range b {
		b[i] = c + byte(i%251)*byte(i/48+1)
	}
	return b
}

func newDisk(t testing.TB, sectors int) *disk.Disk {
	t.Helper()
	d, e := disk.New(sectors)
	if e != api.OK {
		t.Fatalf("New(%d) = %d", sectors, e)
	}
	return d
}

func open(t testing.TB, d *disk.Disk, at, sectors int) *wal.Log {
	t.Helper()
	l, e := wal.Open(d, at, sectors)
	if e != api.OK || l == nil {
		t.Fatalf("Open(%d, %d) = %v, %d", at, sectors, l, e)
	}
	return l
}

func add(t testing.TB, l *wal.Log, recs ...[]byte) {
	t.Helper()
	for _, rec := range recs {
		next := l.Next()
		if lsn, e := l.Append(rec); lsn != next || e != api.OK {
			t.Fatalf("Append(%d bytes) = %d, %d, want %d", len(rec), lsn, e, next)
		}
	}
}

func flush(t testing.TB, l *wal.Log) {
	t.Helper()
	if e := l.Flush(); e != api.OK || l.Flushed() != l.Next()-1 {
		t.Fatalf("Flush() = %d, then Flushed() = %d, Next() = %d", e, l.Flushed(), l.Next())
	}
}

func cut(t testing.TB, l *wal.Log, lsn uint64) {
	t.Helper()
	if e := l.Cut(lsn); e != api.OK {
		t.Fatalf("Cut(%d) = %d", lsn, e)
	}
}

// holds: the Log tells just these records, and all its numbers fit them.
func holds(t testing.TB, l *wal.Log, first uint64, want ...[]byte) {
	t.Helper()
	n, room := 0, l.Size()
	for lsn, rec := range l.All() {
		if n >= len(want) || lsn != first+uint64(n) || !bytes.Equal(rec, want[n]) {
			t.Fatalf("All tells %d: % x.. of %d bytes at place %d of %d", lsn, rec[:min(4, len(rec))], len(rec), n, len(want))
		}
		room -= len(rec) + 16
		n++
	}
	if n != len(want) || l.First() != first || l.Next() != first+uint64(n) || l.Room() != room || l.Flushed()+1 < first || l.Flushed() >= l.Next() {
		t.Fatalf("%d records, First() = %d, Next() = %d, Flushed() = %d, Room() = %d, want %d records from %d on, Room %d", n, l.First(), l.Next(), l.Flushed(), l.Room(), len(want), first, room)
	}
}

// sectorsOf: all that the disk holds now.
func sectorsOf(t testing.TB, d *disk.Disk) [][]byte {
	t.Helper()
	var l [][]byte
	for i := range d.Sectors() {
		b, e := d.Read(i)
		if e != api.OK {
			t.Fatalf("sector %d: %d", i, e)
		}
		l = append(l, b)
	}
	return l
}

// Promise 4.1: what Open refuses, on a disk that lives and on a dead one.
func TestOpenRefuses(t *testing.T) {
	for _, dead := range []bool{false, true} {
		d := newDisk(t, 40)
		if dead {
			d.Fuse(0)
		}
		for _, c := range [][2]int{
			{0, 15}, {0, 0}, {0, -1}, {0, -16}, {0, math.MinInt}, {0, 41}, {0, 32768}, {0, 32769}, {0, math.MaxInt},
			{-1, 16}, {-1, 41}, {math.MinInt, 16}, {25, 16}, {24, 17}, {1, 40}, {40, 16}, {math.MaxInt, 16}, {math.MaxInt - 15, 16}, {1 << 62, 20}, {-20, 32769},
		} {
			if l, e := wal.Open(d, c[0], c[1]); l != nil || e != api.ErrArg {
				t.Errorf("Open(%d, %d) = %v, %d", c[0], c[1], l, e)
			}
		}
		if d.Writes() != 0 {
			t.Error("an Open that was refused wrote")
		}
	}
	if l, e := wal.Open(nil, 0, 16); l != nil || e != api.ErrArg {
		t.Errorf("Open(nil) = %v, %d", l, e)
	}
	for _, c := range [][2]int{{8, 16}, {15, 16}, {65536, 32769}, {65536, 40000}} {
		if l, e := wal.Open(newDisk(t, c[0]), 0, c[1]); l != nil || e != api.ErrArg {
			t.Errorf("Open(0, %d) on %d sectors = %v, %d", c[1], c[0], l, e)
		}
	}
}

// Promise 4.1: Logs that just fit; a fresh one is empty, and has its Size as Room.
func TestOpenFits(t *testing.T) {
	for _, c := range []struct{ disk, at, sectors, size int }{
		{16, 0, 16, 384}, {40, 24, 16, 384}, {40, 0, 40, 1536}, {40, 10, 20, 576}, {32768, 0, 32768, 1572480}, {65536, 32768, 32768, 1572480},
	} {
		d := newDisk(t, c.disk)
		l := open(t, d, c.at, c.sectors)
		if l.Size() != c.size {
			t.Errorf("%d sectors: Size() = %d, want %d", c.sectors, l.Size(), c.size)
		}
		holds(t, l, 1)
		if l.Flushed() != 0 {
			t.Errorf("Flushed() = %d", l.Flushed())
		}
		var want [][]byte
		for l.Room() > 0 {
			size := min(2000, l.Room()-16)
			if rest := l.Room() - 16 - size; rest > 0 && rest < 16 {
				size -= 16 // so that the last one finds room for its 16 bytes
			}
			want = append(want, text(byte(len(want)), size))
			add(t, l, want[len(want)-1])
		}
		flush(t, l)
		d.Crash(nil)
		holds(t, open(t, d, c.at, c.sectors), 1, want...)
	}
}

// Promise 4.1: the disk's errors.
func TestDeadDisk(t *testing.T) {
	d := newDisk(t, 20)
	l := open(t, d, 0, 20)
	add(t, l, text(1, 50), text(2, 0))
	flush(t, l)
	add(t, l, text(3, 9))
	d.Fuse(0)
	if x, e := wal.Open(d, 0, 20); x != nil || e != api.ErrDead {
		t.Errorf("Open = %v, %d", x, e)
	}
	if lsn, e := l.Append(text(4, 9)); lsn != 0 || e != api.ErrDead {
		t.Errorf("Append = %d, %d", lsn, e)
	}
	for _, c := range []struct {
		size int
		want api.Errno
	}{{2001, api.ErrBig}, {l.Room() - 15, api.ErrFull}, {l.Room() - 16, api.ErrDead}} {
		if lsn, e := l.Append(make([]byte, c.size)); lsn != 0 || e != c.want {
			t.Errorf("Append(%d bytes) = %d, %d, want %d", c.size, lsn, e, c.want)
		}
	}
	if e := l.Flush(); e != api.ErrDead {
		t.Errorf("Flush = %d", e)
	}
	for lsn, want := range []api.Errno{0: api.ErrDead, 1: api.ErrDead, 2: api.ErrDead, 3: api.ErrDead, 4: api.ErrDead, 5: api.ErrArg} {
		if e := l.Cut(uint64(lsn)); e != want {
			t.Errorf("Cut(%d) = %d, want %d", lsn, e, want)
		}
	}
	holds(t, l, 1, text(1, 50), text(2, 0), text(3, 9))
	if l.Flushed() != 2 {
		t.Errorf("Flushed() = %d", l.Flushed())
	}
	d.Crash(nil)
	holds(t, open(t, d, 0, 20), 1, text(1, 50), text(2, 0))
}

// Promise 4.1: records are numbered from 1 on; Room, Next and Flushed follow them.
func TestAppend(t *testing.T) {
	d := newDisk(t, 60)
	l := open(t, d, 3, 57)
	if l.Size() != 2352 {
		t.Fatalf("Size() = %d", l.Size())
	}
	want := [][]byte{text(1, 3), nil, text(2, 100), {0}, make([]byte, 48), text(5, 2000)}
	room := 2352
	for i, rec := range want {
		if lsn, e := l.Append(rec); lsn != uint64(i+1) || e != api.OK {
			t.Fatalf("Append = %d, %d", lsn, e)
		}
		room -= len(rec) + 16
		if l.Room() != room || l.Next() != uint64(i+2) || l.First() != 1 || l.Flushed() != 0 {
			t.Errorf("Room() = %d, Next() = %d, First() = %d, Flushed() = %d", l.Room(), l.Next(), l.First(), l.Flushed())
		}
	}
	holds(t, l, 1, want...)
	flush(t, l)
	if l.Flushed() != 6 {
		t.Errorf("Flushed() = %d", l.Flushed())
	}
	d.Crash(nil)
	l = open(t, d, 3, 57)
	holds(t, l, 1, want...)
	if l.Flushed() != 6 {
		t.Errorf("Flushed() = %d", l.Flushed())
	}
}

// Promise 4.1: what Append refuses, in its order; nothing is changed by it.
func TestAppendRefuses(t *testing.T) {
	d := newDisk(t, 16)
	l := open(t, d, 0, 16)
	add(t, l, text(1, 30))
	for _, c := range []struct {
		size int
		want api.Errno
	}{
		{323, api.ErrFull}, {324, api.ErrFull}, {2000, api.ErrFull}, {2001, api.ErrBig}, {100000, api.ErrBig},
	} {
		if lsn, e := l.Append(make([]byte, c.size)); lsn != 0 || e != c.want {
			t.Errorf("Append(%d bytes) = %d, %d, want %d", c.size, lsn, e, c.want)
		}
		holds(t, l, 1, text(1, 30))
	}
	add(t, l, text(2, 306))
	if l.Room() != 16 {
		t.Fatalf("Room() = %d", l.Room())
	}
	if lsn, e := l.Append([]byte{1}); lsn != 0 || e != api.ErrFull {
		t.Errorf("Append(1 byte) = %d, %d", lsn, e)
	}
	add(t, l, nil)
	if lsn, e := l.Append(nil); lsn != 0 || e != api.ErrFull || l.Room() != 0 {
		t.Errorf("Append(nil) = %d, %d, Room() = %d", lsn, e, l.Room())
	}
	flush(t, l)
	d.Crash(nil)
	holds(t, open(t, d, 0, 16), 1, text(1, 30), text(2, 306), nil)
	big := open(t, newDisk(t, 60), 0, 60)
	if lsn, e := big.Append(make([]byte, 2001)); lsn != 0 || e != api.ErrBig {
		t.Errorf("Append(2001 bytes) = %d, %d", lsn, e)
	}
	add(t, big, make([]byte, 2000))
}

// Promises 4.1, 4.3: what is flushed lasts; what is not, a crash that keeps nothing loses.
func TestFlush(t *testing.T) {
	d := newDisk(t, 30)
	l := open(t, d, 0, 30)
	var want [][]byte
	for i := range 25 {
		rec := text(byte(i), i%20)
		add(t, l, rec)
		if l.Flushed() != uint64(len(want)) {
			t.Fatalf("Flushed() = %d, want %d", l.Flushed(), len(want))
		}
		c := d.Copy()
		c.Crash(nil)
		holds(t, open(t, c, 0, 30), 1, want...)
		flush(t, l)
		if d.Waiting() != 0 {
			t.Fatal("a Flush left something that waits")
		}
		want = append(want, rec)
		c = d.Copy()
		c.Crash(nil)
		holds(t, open(t, c, 0, 30), 1, want...)
		flush(t, l)
	}
	holds(t, l, 1, want...)
}

// Promise 4.1: what waits on the disk when the Log is opened lasts behind that: Flushed says so.
func TestOpenMakesLast(t *testing.T) {
	d := newDisk(t, 30)
	l := open(t, d, 0, 30)
	add(t, l, text(1, 70))
	flush(t, l)
	was := sectorsOf(t, d)
	d = newDisk(t, 30)
	for i, b := range was {
		d.Write(i, b)
	}
	l = open(t, d, 0, 30)
	holds(t, l, 1, text(1, 70))
	if l.Flushed() != 1 {
		t.Errorf("Flushed() = %d", l.Flushed())
	}
	d.Crash(nil)
	holds(t, open(t, d, 0, 30), 1, text(1, 70))
}

// Promise 4.1: Cut at each LSN, at its edges and beyond them.
func TestCut(t *testing.T) {
	want := [][]byte{text(1, 3), text(2, 0), text(3, 100), text(4, 29), text(5, 1)}
	for lsn := range uint64(9) {
		d := newDisk(t, 30)
		l := open(t, d, 0, 30)
		add(t, l, want...)
		if lsn > 6 {
			if e := l.Cut(lsn); e != api.ErrArg || l.Flushed() != 0 {
				t.Fatalf("Cut(%d) = %d, then Flushed() = %d", lsn, e, l.Flushed())
			}
			if e := l.Cut(math.MaxUint64); e != api.ErrArg {
				t.Fatalf("Cut = %d", e)
			}
			holds(t, l, 1, want...)
			continue
		}
		cut(t, l, lsn)
		first := max(lsn, 1)
		for range 2 {
			holds(t, l, first, want[first-1:]...)
			// It Flushes first, so that nothing is left to be lost.
			if l.Flushed() != 5 {
				t.Fatalf("Cut(%d), then Flushed() = %d", lsn, l.Flushed())
			}
			cut(t, l, 0)
			cut(t, l, first)
			cut(t, l, first-1)
			if e := l.Cut(7); e != api.ErrArg {
				t.Fatalf("Cut(7) = %d", e)
			}
			holds(t, l, first, want[first-1:]...)
			d.Crash(nil)
			l = open(t, d, 0, 30)
		}
		add(t, l, text(6, 60))
		holds(t, l, first, append(slices.Clone(want[first-1:]), text(6, 60))...)
		cut(t, l, 7)
		holds(t, l, 7)
		d.Crash(nil)
		l = open(t, d, 0, 30)
		holds(t, l, 7)
		if l.Flushed() != 6 || l.Room() != l.Size() {
			t.Fatalf("Flushed() = %d, Room() = %d", l.Flushed(), l.Room())
		}
	}
}

// Promise 4.1: All tells the records as they are when it is asked, as often as it is gone through, and ends where it is left.
func TestAll(t *testing.T) {
	l := open(t, newDisk(t, 40), 0, 40)
	for range l.All() {
		t.Error("an empty Log tells a record")
	}
	add(t, l, text(1, 5), text(2, 6), text(3, 7))
	all := l.All()
	for range 2 {
		n := uint64(0)
		for lsn, rec := range all {
			n++
			if lsn != n || !bytes.Equal(rec, text(byte(n), 4+int(n))) {
				t.Errorf("%d: % x", lsn, rec)
			}
			l.Append([]byte("more"))
			l.Cut(lsn + 1)
		}
		if n != 3 {
			t.Errorf("All told %d records", n)
		}
	}
	if l.First() != 4 || l.Next() != 10 {
		t.Errorf("First() = %d, Next() = %d", l.First(), l.Next())
	}
	for lsn := range l.All() {
		if lsn != 4 {
			t.Errorf("LSN %d behind a break", lsn)
		}
		break
	}
}

// Rule 3: neither what was handed in nor what was told is a way into the Log.
func TestNothingIsShared(t *testing.T) {
	d := newDisk(t, 40)
	l := open(t, d, 0, 40)
	room := append(text(1, 50), 77, 78)
	add(t, l, room[:50])
	if !bytes.Equal(room, append(text(1, 50), 77, 78)) {
		t.Error("Append changed what it was given")
	}
	clear(room)
	for range 2 {
		for _, rec := range l.All() {
			clear(rec[:cap(rec)])
		}
		holds(t, l, 1, text(1, 50))
		flush(t, l)
		d.Crash(nil)
		l = open(t, d, 0, 40)
	}
	add(t, l, text(2, 60))
	holds(t, l, 1, text(1, 50), text(2, 60))
}

// Promises 4.1, 4.3: the whole Size can be used wherever in a sector the first record begins, round and round.
func TestRoomToTheLastByte(t *testing.T) {
	for step := range 49 {
		d := newDisk(t, 20)
		l := open(t, d, 1, 18)
		next := uint64(1)
		for round := range 40 {
			mark := byte(step + round)
			want := [][]byte{text(mark, step), text(mark+1, round), text(mark+2, l.Size()-48-step-round)}
			add(t, l, want...)
			if l.Room() != 0 {
				t.Fatalf("Room() = %d", l.Room())
			}
			if _, e := l.Append(nil); e != api.ErrFull {
				t.Fatalf("Append = %d", e)
			}
			flush(t, l)
			d.Crash(nil)
			if round%2 > 0 {
				l = open(t, d, 1, 18)
			}
			holds(t, l, next, want...)
			// What the cut gives back is used at once, while one record ahead of it still stands.
			cut(t, l, next+1)
			want = append(want[1:], text(mark+3, step))
			add(t, l, want[2])
			if l.Room() != 0 {
				t.Fatalf("Room() = %d", l.Room())
			}
			flush(t, l)
			d.Crash(nil)
			holds(t, open(t, d.Copy(), 1, 18), next+1, want...)
			next += 4
			cut(t, l, next)
		}
	}
}

// Promise 4.1: the longest Log goes round its sectors, too.
func TestLongestLog(t *testing.T) {
	d := newDisk(t, 32768)
	l := open(t, d, 0, 32768)
	for i := range 1600 {
		if l.Room() < 2016 {
			cut(t, l, l.Next()-5)
		}
		add(t, l, text(byte(i), 2000))
	}
	flush(t, l)
	d.Crash(nil)
	first := l.First()
	var want [][]byte
	for i := first; i < 1601; i++ {
		want = append(want, text(byte(i-1), 2000))
	}
	holds(t, open(t, d, 0, 32768), first, want...)
}

// keepSome: of what waits some Writes, by chance; now and then none, all, or all but one.
func keepSome(r *rand.Rand, waiting int) []int {
	left, odds := -1, r.Intn(5)
	if odds == 4 && waiting > 0 {
		left = r.Intn(waiting)
	}
	var keep []int
	for i := range waiting {
		if odds == 4 && i != left || odds < 4 && r.Intn(3) < odds {
			keep = append(keep, i)
		}
	}
	return keep
}

// keepBits: of what waits the Writes whose bits are set.
func keepBits(bits, waiting int) []int {
	var keep []int
	for i := range waiting {
		if bits>>i&1 > 0 {
			keep = append(keep, i)
		}
	}
	return keep
}

// reopen opens the Log behind crash upon crash within Open, the last time with no Fuse.
func reopen(t *testing.T, r *rand.Rand, d *disk.Disk, at, sectors int) *wal.Log {
	t.Helper()
	for range r.Intn(4) {
		d.Fuse(r.Intn(6))
		l, e := wal.Open(d, at, sectors)
		if e != api.OK && (e != api.ErrDead || l != nil) {
			t.Fatalf("Open with a Fuse = %v, %d", l, e)
		}
		d.Crash(keepSome(r, d.Waiting()))
	}
	return open(t, d, at, sectors)
}

// history is what a Log may tell: all that was appended, by LSN from 1 on, and what of it must be there.
type history struct {
	recs  [][]byte
	first []uint64 // where it may begin: one, or two if a Cut died
	sure  uint64   // the greatest LSN that must be there
}

// check holds a Log that was just opened to the history, which then is what it tells.
func (h *history) check(t *testing.T, l *wal.Log) {
	t.Helper()
	if !slices.Contains(h.first, l.First()) {
		t.Fatalf("First() = %d, want one of %v", l.First(), h.first)
	}
	if l.Next() <= h.sure || l.Next() > uint64(len(h.recs))+1 || l.Flushed() != l.Next()-1 {
		t.Fatalf("Next() = %d, Flushed() = %d; %d last, %d were appended", l.Next(), l.Flushed(), h.sure, len(h.recs))
	}
	holds(t, l, l.First(), h.recs[l.First()-1:l.Next()-1]...)
	h.recs = h.recs[:l.Next()-1]
	h.first, h.sure = []uint64{l.First()}, uint64(len(h.recs))
}

func (h *history) copy() *history {
	return &history{recs: slices.Clone(h.recs), first: slices.Clone(h.first), sure: h.sure}
}

// append: the one whose Append died may show, too.
func (h *history) append(l *wal.Log, rec []byte) api.Errno {
	_, e := l.Append(rec)
	if e == api.OK || e == api.ErrDead {
		h.recs = append(h.recs, rec)
	}
	return e
}

func (h *history) flush(l *wal.Log) api.Errno {
	e := l.Flush()
	if e == api.OK {
		h.sure = uint64(len(h.recs))
	}
	return e
}

func (h *history) cut(l *wal.Log, lsn uint64) api.Errno {
	e := l.Cut(lsn)
	switch {
	case e == api.OK:
		h.first, h.sure = []uint64{max(lsn, h.first[0])}, uint64(len(h.recs))
	case e == api.ErrDead && lsn > h.first[0]:
		h.first = append(h.first, lsn)
	}
	return e
}

// Promises 4.2, 4.3: the disk dies at each step of Flush and Cut, with each choice of what waited kept; then at each step of Open.
func TestEachStep(t *testing.T) {
	r := noise()
	for ahead := range 50 {
		for n := 0; ; n++ {
			d := newDisk(t, 16)
			l := open(t, d, 0, 16)
			h := &history{first: []uint64{1}}
			h.append(l, text(1, ahead))
			h.append(l, text(2, 40))
			h.flush(l)
			h.append(l, text(3, 70))
			h.append(l, text(4, 10))
			d.Fuse(n)
			if h.flush(l) == api.OK && h.cut(l, 2) == api.OK && h.append(l, text(5, 60)) == api.OK {
				h.cut(l, 4)
			}
			done := !d.Dead()
			for bits := range 1 << d.Waiting() {
				base := d.Copy()
				base.Crash(keepBits(bits, d.Waiting()))
				for m := range 4 {
					c := base.Copy()
					c.Fuse(m)
					if x, e := wal.Open(c, 0, 16); e != api.OK && (e != api.ErrDead || x != nil) {
						t.Fatalf("Open = %v, %d", x, e)
					}
					c.Crash(keepSome(r, c.Waiting()))
					h.copy().check(t, open(t, c, 0, 16))
				}
			}
			if done {
				break
			}
		}
	}
}

// Promise 4.2: of lives that die one after the other, each with other records that for the most part have the same bytes, each tells its own and what the one ahead told, whatever was kept of either.
func TestElderLives(t *testing.T) {
	rec := func(life, n int) []byte {
		b := bytes.Repeat([]byte{7}, 70-10*n)
		b[0] = byte(life)
		return b
	}
	for ahead := range 50 {
		for bits := range 1 << 8 {
			d := newDisk(t, 20)
			l := open(t, d, 0, 20)
			h := &history{first: []uint64{1}}
			h.append(l, make([]byte, ahead))
			h.flush(l)
			for life := range 3 {
				h.append(l, rec(life, 0))
				h.append(l, rec(life, life))
				d.Fuse(4)
				h.flush(l)
				d.Crash(keepBits(bits>>(life*4)|bits<<(8-life*4), d.Waiting()))
				l = open(t, d, 0, 20)
				h.check(t, l)
			}
		}
	}
}

// Promise 4.2: a record of an elder life, whole on the disk behind one that was lost, is gone for good, whatever sectors it stands in, and just where the next life's records end.
func TestLostRecordsStayGone(t *testing.T) {
	for pieces := range 33 {
		d := newDisk(t, 16)
		l := open(t, d, 0, 16)
		h := &history{first: []uint64{1}}
		for range pieces {
			h.append(l, text(9, 32)) // with its 16 bytes just what a sector holds
			h.cut(l, l.Next())
		}
		for life := range byte(3) {
			for i := range byte(4) {
				h.append(l, text(life*10+i, 32))
			}
			d.Fuse(4)
			h.flush(l)
			d.Crash([]int{1, 2, 3})
			l = open(t, d, 0, 16)
			h.check(t, l)
			h.append(l, text(life*10+5, 32))
			h.flush(l)
			d.Crash(nil)
			l = open(t, d, 0, 16)
			h.check(t, l)
		}
	}
}

// sameSum: other bytes from a place on, of the same length and sum.
func sameSum(t *testing.T, b []byte, from int) []byte {
	t.Helper()
	out := bytes.Clone(b)
	for i, c := range []byte{0x41, 0x06, 0x71, 0xdb, 0x01} {
		out[from+i] ^= c
	}
	if pack.CRC(out) != pack.CRC(b) {
		t.Fatal("the sums are not the same")
	}
	return out
}

// Promise 4.2: what an elder life left of a record is not made whole by a later one of the same sum, length and end, either.
func TestSameSums(t *testing.T) {
	elder := text(1, 70)
	later := sameSum(t, elder, 0)
	for ahead := range 50 {
		for bits := range 1 << 8 {
			d := newDisk(t, 20)
			l := open(t, d, 0, 20)
			h := &history{first: []uint64{1}}
			h.append(l, make([]byte, ahead))
			h.flush(l)
			for life, rec := range [][]byte{elder, later} {
				h.append(l, rec)
				d.Fuse(((ahead+16)%48 + 16 + len(rec) + 47) / 48) // each sector is written, none is flushed
				h.flush(l)
				d.Crash(keepBits(bits>>(life*4), d.Waiting()))
				l = open(t, d, 0, 20)
				h.check(t, l)
			}
		}
	}
}

// Promise 4.2: nor is a record whose middle was lost made whole by what stood there a turn of the sectors earlier.
func TestSameSumsATurnEarlier(t *testing.T) {
	elder := text(1, 3*48-16)
	later := sameSum(t, elder, 60)
	for pieces := range 40 {
		d := newDisk(t, 16)
		l := open(t, d, 0, 16)
		h := &history{first: []uint64{1}}
		h.append(l, elder)
		for range pieces {
			h.append(l, text(9, 32)) // with its 16 bytes just what a sector holds
			h.cut(l, l.Next())
		}
		h.append(l, later)
		d.Fuse(3)
		h.flush(l)
		d.Crash([]int{0, 2})
		h.check(t, open(t, d, 0, 16))
	}
}

// oneThing does one thing to a Log by chance, and notes it.
func oneThing(t *testing.T, r *rand.Rand, l *wal.Log, h *history, most int) api.Errno {
	t.Helper()
	switch k := r.Intn(10); {
	case k < 7:
		room := l.Room()
		rec := text(byte(r.Intn(256)), r.Intn(most+1))
		e := h.append(l, rec)
		if (e == api.ErrFull) != (room < len(rec)+16) {
			t.Fatalf("Append(%d bytes) = %d with Room %d", len(rec), e, room)
		}
		if e == api.ErrFull {
			return h.cut(l, l.First()+uint64(r.Int63n(int64(l.Next()-l.First()+1))))
		}
		return e
	case k < 9:
		return h.flush(l)
	}
	return h.cut(l, uint64(r.Int63n(int64(l.Next()+1))))
}

// Promises 4.2, 4.3: long lives with crash upon crash, also within Open.
func TestLongLives(t *testing.T) {
	r := noise()
	for range 60 {
		at, sectors := r.Intn(5), 16+r.Intn(40)
		d := newDisk(t, at+sectors+r.Intn(3))
		l := open(t, d, at, sectors)
		h := &history{first: []uint64{1}}
		for range 60 {
			most := min(2000, []int{0, 20, 90, l.Size() - 16}[r.Intn(4)])
			d.Fuse(1 + r.Intn(80))
			for step := range 60 {
				e := oneThing(t, r, l, h, most)
				if e == api.ErrDead {
					break
				}
				if e != api.OK {
					t.Fatalf("step %d: %d", step, e)
				}
				holds(t, l, h.first[0], h.recs[h.first[0]-1:]...)
			}
			d.Crash(keepSome(r, d.Waiting()))
			l = reopen(t, r, d, at, sectors)
			h.check(t, l)
		}
	}
}

// Promise 4.2: Opens in a row tell the same, and leave a disk alone that has nothing half done.
func TestOpenAgain(t *testing.T) {
	d := newDisk(t, 20)
	l := open(t, d, 0, 20)
	for i := range 30 {
		rec := text(byte(i), 10*i%90)
		if l.Room() < len(rec)+16 {
			cut(t, l, l.Next()-1)
		}
		add(t, l, rec)
		flush(t, l)
		writes := d.Writes()
		again := open(t, d, 0, 20)
		var want [][]byte
		for _, rec := range l.All() {
			want = append(want, rec)
		}
		holds(t, again, l.First(), want...)
		if d.Writes() != writes {
			t.Fatalf("round %d: Open wrote", i)
		}
		l = again
	}
}

// Promises 4.2, 4.3: a Log writes in its own sectors alone; another one and a File go on beside it, crash upon crash.
func TestNeighbours(t *testing.T) {
	r := noise()
	first, second := page.Need(2), page.Need(2)+17
	d := newDisk(t, second+21)
	edge := bytes.Repeat([]byte{5}, api.Sector)
	d.Write(d.Sectors()-1, edge)
	f, e := page.Open(d, 0, 2)
	if e != api.OK {
		t.Fatal(e)
	}
	l, m := open(t, d, first, 17), open(t, d, second, 20)
	h, g := &history{first: []uint64{1}}, &history{first: []uint64{1}}
	for step := range 300 {
		p := page.Page{No: step % 2, LSN: uint64(step), Data: text(byte(step), api.Bytes)}
		if e := f.Write([]page.Page{p}); e != api.OK {
			t.Fatal(e)
		}
		d.Fuse(1 + r.Intn(60))
		for range 20 {
			if oneThing(t, r, l, h, 60) == api.ErrDead || oneThing(t, r, m, g, 90) == api.ErrDead {
				break
			}
		}
		d.Crash(keepSome(r, d.Waiting()))
		l, m = reopen(t, r, d, first, 17), reopen(t, r, d, second, 20)
		h.check(t, l)
		g.check(t, m)
		if f, e = page.Open(d, 0, 2); e != api.OK {
			t.Fatal(e)
		}
		if q, e := f.Read(p.No); e != api.OK || q.LSN != p.LSN || !bytes.Equal(q.Data, p.Data) {
			t.Fatalf("step %d: page %d has LSN %d, %d", step, p.No, q.LSN, e)
		}
	}
	if b, _ := d.Read(d.Sectors() - 1); !bytes.Equal(b, edge) {
		t.Error("a sector of no Log was written")
	}
}

// goesOn: whatever Open found, the Log is one from there on.
func goesOn(t *testing.T, d *disk.Disk, at, sectors int) {
	t.Helper()
	l := open(t, d, at, sectors)
	var want [][]byte
	for _, rec := range l.All() {
		want = append(want, rec)
	}
	holds(t, l, l.First(), want...)
	if l.Room() < 0 || l.Flushed() != l.Next()-1 {
		t.Fatalf("Room() = %d, Flushed() = %d, Next() = %d", l.Room(), l.Flushed(), l.Next())
	}
	first := l.First()
	for i := range 30 {
		if l.Room() < 47 {
			cut(t, l, l.Next())
			first, want = l.Next(), nil
		}
		want = append(want, text(byte(i), 31))
		add(t, l, want[len(want)-1])
		flush(t, l)
		d.Crash(nil)
		if i%5 == 0 {
			l = open(t, d, at, sectors)
		}
		holds(t, l, first, want...)
	}
}

// Promises 4.3, 4.4: whatever byte is spoilt, Open is OK, and tells no record otherwise than it was appended.
func TestSpoiltBytes(t *testing.T) {
	base := newDisk(t, 16)
	l := open(t, base, 0, 16)
	want := [][]byte{text(1, 3), text(2, 0), text(3, 100), text(4, 29), text(5, 1), text(6, 90)}
	add(t, l, want[:3]...)
	cut(t, l, 2)
	add(t, l, want[3:]...)
	flush(t, l)
	for i := range base.Sectors() {
		for at := range api.Sector {
			d := base.Copy()
			b, _ := d.Read(i)
			b[at] ^= 1 << (at % 8)
			d.Write(i, b)
			for lsn, rec := range open(t, d, 0, 16).All() {
				if lsn > 6 || !bytes.Equal(rec, want[lsn-1]) {
					t.Fatalf("sector %d, byte %d: All tells %d: % x", i, at, lsn, rec)
				}
			}
			goesOn(t, d, 0, 16)
		}
	}
}

// Promise 4.4: bytes of no Log are an empty one; none of it panics.
func TestHostileBytes(t *testing.T) {
	r := noise()
	for range 200 {
		d := newDisk(t, 40)
		for i := range d.Sectors() {
			b := make([]byte, api.Sector)
			r.Read(b)
			d.Write(i, b)
		}
		holds(t, open(t, d, 3, 20), 1)
		goesOn(t, d, 3, 20)
	}
}

// Promise 4.4: sums that are right over things that make no sense, in each sector.
func TestHostileSums(t *testing.T) {
	numbers := []uint64{0, 1, 2, 16, 19, 20, 47, 48, 2000, 2001, 1 << 31, 1 << 40, 1 << 61, 1<<62 + 1, 1<<63 - 1, 1 << 63, math.MaxUint64 - 1, math.MaxUint64}
	for _, x := range numbers {
		for _, y := range numbers {
			head := append(pack.Uvar(x), pack.Uvar(y)...)
			for form := range 4 {
				d := newDisk(t, 20)
				for i := range d.Sectors() {
					body := make([]byte, 60)
					n := copy(body, head)
					switch form {
					case 1:
						copy(body[48:], pack.Uvar(math.MaxUint64))
					case 2:
						copy(body[48:], pack.Uvar(x+uint64(i)))
					case 3:
						copy(body[n:], bytes.Repeat([]byte{255}, 60))
					}
					d.Write(i, pack.Seal(body))
				}
				goesOn(t, d, 0, 20)
			}
		}
	}
}

// laid: a disk on which these bytes stand as a Log's stream, from its beginning on, in sound sectors.
func laid(t *testing.T, sectors int, stream []byte) *disk.Disk {
	t.Helper()
	d := newDisk(t, sectors)
	no := 0
	for piece := range slices.Chunk(stream, 48) {
		body := make([]byte, 60)
		copy(body, piece)
		copy(body[48:], pack.Uvar(uint64(no)))
		d.Write(1+no, pack.Seal(body))
		no++
	}
	return d
}

// Promise 4.4: frames whose sums are right over lengths and LSNs that make no sense.
func TestHostileFrames(t *testing.T) {
	numbers := []uint64{0, 1, 2, 11, 12, 15, 16, 32, 1999, 2000, 2001, 1 << 31, 1 << 63, math.MaxUint64 - 16, math.MaxUint64 - 15, math.MaxUint64 - 1, math.MaxUint64}
	for _, lsn := range numbers {
		for _, size := range numbers {
			front := append(pack.Uvar(lsn), pack.Uvar(size)...)
			for length := len(front); length < 70; length++ {
				body := append(slices.Clone(front), make([]byte, length-len(front))...)
				d := laid(t, 16, append(pack.Seal(body), text(3, 100)...))
				if l := open(t, d, 0, 16); lsn != 1 {
					holds(t, l, 1)
				}
				if length%16 == 0 {
					goesOn(t, d, 0, 16)
				}
			}
		}
	}
}

// Promises 4.3, 4.4: sound sectors of two Logs among each other: what is told was appended to the one or to the other.
func TestMixedSectors(t *testing.T) {
	r := noise()
	var recs [2][][]byte
	var was [2][][]byte
	for k := range was {
		d := newDisk(t, 20)
		l := open(t, d, 0, 20)
		for i := range 8 {
			recs[k] = append(recs[k], text(byte(100*k+i), 20+5*i))
		}
		add(t, l, recs[k]...)
		flush(t, l)
		was[k] = sectorsOf(t, d)
	}
	for range 500 {
		d := newDisk(t, 20)
		for i := range d.Sectors() {
			d.Write(i, was[r.Intn(2)][i])
		}
		for lsn, rec := range open(t, d, 0, 20).All() {
			if lsn > 8 || !bytes.Equal(rec, recs[0][lsn-1]) && !bytes.Equal(rec, recs[1][lsn-1]) {
				t.Fatalf("All tells %d: % x", lsn, rec)
			}
		}
		goesOn(t, d, 0, 20)
	}
}

// Promise 4.4: what another Log, of another length or place, left in the sectors; also more than this one could ever hold.
func TestForeignSectors(t *testing.T) {
	full := newDisk(t, 30)
	l := open(t, full, 0, 30)
	for l.Room() > 0 {
		add(t, l, text(1, 32))
	}
	flush(t, l)
	round := newDisk(t, 30)
	l = open(t, round, 0, 30)
	for i := range 300 {
		if l.Room() < 76 {
			cut(t, l, l.Next()-3)
		}
		add(t, l, text(byte(i), i%61))
	}
	flush(t, l)
	for _, d := range []*disk.Disk{full, round} {
		for at := range 15 {
			for sectors := 16; at+sectors <= 30; sectors++ {
				if at > 0 {
					holds(t, open(t, d.Copy(), at, sectors), 1)
				}
				goesOn(t, d.Copy(), at, sectors)
			}
		}
	}
}

func ExampleLog() {
	d, _ := disk.New(40)
	l, _ := wal.Open(d, 0, 40)
	l.Append([]byte("a"))
	for lsn, rec := range l.All() {
		fmt.Printf("%d: %s\n", lsn, rec)
	}
	// Output: 1: a
}
