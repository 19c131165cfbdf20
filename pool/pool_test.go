package pool_test

import (
	"bytes"
	"fmt"
	"math"
	"math/rand"
	"slices"
	"testing"

	"terrier/api"
	"terrier/disk"
	"terrier/page"
	"terrier/pool"
	"terrier/wal"
)

const (
	pages   = 12
	sectors = 200 // of the Log
)

// noise is the same at each run, so that a failure comes again.
func noise() *rand.Rand { return rand.New(rand.NewSource(1)) }

// data: bytes that hang on c and on where they stand, so that a shift or a mixture would show.
func data(c byte) []byte {
	b := make([]byte, api.Bytes)
	for i := range b {
		b[i] = c + byte(i%251)*byte(i/64+1)
	}
	return b
}

func blank(no int) page.Page { return page.Page{No: no, Data: make([]byte, api.Bytes)} }

func pageOf(no int, lsn uint64, c byte) page.Page {
	return page.Page{No: no, LSN: lsn, Data: data(c)}
}

func same(a, b page.Page) bool {
	return a.No == b.No && a.LSN == b.LSN && bytes.Equal(a.Data, b.Data)
}

func isZero(x page.Page) bool { return x.No == 0 && x.LSN == 0 && x.Data == nil }

// bench: a Pool and what it stands on, each of which may have a disk of its own.
type bench struct {
	t          testing.TB
	disk, logs *disk.Disk
	file       *page.File
	log        *wal.Log
	pool       *pool.Pool
}

func newDisk(t testing.TB, n int) *disk.Disk {
	t.Helper()
	d, e := disk.New(n)
	if e != api.OK {
		t.Fatalf("New(%d) = %d", n, e)
	}
	return d
}

// newBench: the File and the Log on one disk.
func newBench(t testing.TB, pages, frames int) *bench {
	t.Helper()
	d := newDisk(t, page.Need(pages)+sectors)
	return benchOn(t, d, d, page.Need(pages), pages, frames)
}

func benchOn(t testing.TB, d, logs *disk.Disk, at, pages, frames int) *bench {
	t.Helper()
	b := &bench{t: t, disk: d, logs: logs}
	var e api.Errno
	if b.file, e = page.Open(d, 0, pages); e != api.OK {
		t.Fatalf("page.Open = %d", e)
	}
	if b.log, e = wal.Open(logs, at, sectors); e != api.OK {
		t.Fatalf("wal.Open = %d", e)
	}
	if b.pool, e = pool.New(b.file, b.log, frames); e != api.OK || b.pool == nil {
		t.Fatalf("New(%d) = %v, %d", frames, b.pool, e)
	}
	return b
}

// records appends so many; the last one's LSN is told.
func (b *bench) records(n int) uint64 {
	b.t.Helper()
	for range n {
		if _, e := b.log.Append(nil); e != api.OK {
			b.t.Fatalf("Append = %d", e)
		}
	}
	return b.log.Next() - 1
}

func (b *bench) put(l ...page.Page) {
	b.t.Helper()
	for _, x := range l {
		if e := b.pool.Put(x); e != api.OK {
			b.t.Fatalf("Put(%d, LSN %d) = %d", x.No, x.LSN, e)
		}
	}
}

func (b *bench) evict(l ...int) {
	b.t.Helper()
	for _, no := range l {
		if e := b.pool.Evict(no); e != api.OK {
			b.t.Fatalf("Evict(%d) = %d", no, e)
		}
	}
}

func (b *bench) tells(l ...page.Page) {
	b.t.Helper()
	for _, want := range l {
		if x, e := b.pool.Get(want.No); e != api.OK || !same(x, want) {
			b.t.Errorf("Get(%d) = %d, LSN %d, % x.., %d, want LSN %d", want.No, x.No, x.LSN, x.Data[:min(4, len(x.Data))], e, want.LSN)
		}
	}
}

// fileHas looks past the Pool.
func (b *bench) fileHas(l ...page.Page) {
	b.t.Helper()
	for _, want := range l {
		if x, e := b.file.Read(want.No); e != api.OK || !same(x, want) {
			b.t.Errorf("the File's page %d has LSN %d, % x.., %d, want LSN %d", want.No, x.LSN, x.Data[:min(4, len(x.Data))], e, want.LSN)
		}
	}
}

func (b *bench) at(held, dirty string) {
	b.t.Helper()
	if got := fmt.Sprint(b.pool.Held()); got != held {
		b.t.Errorf("Held() = %s, want %s", got, held)
	}
	if got := fmt.Sprint(b.pool.Dirty()); got != dirty {
		b.t.Errorf("Dirty() = %s, want %s", got, dirty)
	}
}

// Promise 5.1: what New refuses, on a disk that lives and on a dead one, and what just goes.
func TestNew(t *testing.T) {
	b := newBench(t, pages, 2)
	for range 2 {
		for _, c := range []struct {
			f *page.File
			l *wal.Log
			n int
		}{
			{nil, b.log, 2}, {b.file, nil, 2}, {nil, nil, 2}, {nil, nil, 0},
			{b.file, b.log, 0}, {b.file, b.log, -1}, {b.file, b.log, 65}, {b.file, b.log, math.MinInt}, {b.file, b.log, math.MaxInt},
		} {
			if p, e := pool.New(c.f, c.l, c.n); p != nil || e != api.ErrArg {
				t.Errorf("New(%v, %v, %d) = %v, %d", c.f != nil, c.l != nil, c.n, p, e)
			}
		}
		for _, n := range []int{1, 2, 12, 13, 63, 64} {
			p, e := pool.New(b.file, b.log, n)
			if p == nil || e != api.OK || len(p.Held()) != 0 || len(p.Dirty()) != 0 {
				t.Errorf("New(%d) = %v, %d", n, p, e)
			}
		}
		b.disk.Fuse(0)
	}
}

// Promise 5.1: a page as the File has it, if it was not put.
func TestGet(t *testing.T) {
	b := newBench(t, pages, 3)
	inFile := pageOf(11, 77, 4) // whatever LSN the File has
	if e := b.file.Write([]page.Page{inFile}); e != api.OK {
		t.Fatal(e)
	}
	writes := b.disk.Writes()
	b.tells(blank(0), inFile, blank(5), blank(0))
	b.at("[0 5 11]", "[]")
	for _, no := range []int{-1, 12, 13, math.MinInt, math.MaxInt} {
		if x, e := b.pool.Get(no); e != api.ErrArg || !isZero(x) {
			t.Errorf("Get(%d) = %v, %d", no, x, e)
		}
	}
	b.at("[0 5 11]", "[]")
	if b.disk.Writes() != writes {
		t.Error("Get wrote")
	}
}

// Promise 5.1: a page as it was put last; the File and the Log are left alone.
func TestPut(t *testing.T) {
	b := newBench(t, pages, 3)
	b.records(4)
	b.put(pageOf(7, 2, 1))
	b.at("[7]", "[7]")
	b.tells(pageOf(7, 2, 1))
	b.put(pageOf(7, 4, 2), pageOf(0, 0, 3))
	b.put(pageOf(7, 3, 4)) // an LSN may fall
	b.at("[0 7]", "[0 7]")
	b.tells(pageOf(0, 0, 3), pageOf(7, 3, 4))
	b.tells(blank(9))
	b.put(pageOf(9, 1, 5))
	b.at("[0 7 9]", "[0 7 9]")
	b.tells(pageOf(0, 0, 3), pageOf(7, 3, 4), pageOf(9, 1, 5))
	b.fileHas(blank(0), blank(7), blank(9))
	if b.log.Flushed() != 0 || b.disk.Writes() != 0 {
		t.Error("Put wrote: ", b.log.Flushed(), b.disk.Writes())
	}
}

// Promise 5.1: what Put refuses changes nothing.
func TestPutRefuses(t *testing.T) {
	b := newBench(t, pages, 2)
	b.records(5)
	b.put(pageOf(1, 5, 1), pageOf(2, 4, 2))
	for _, x := range []page.Page{
		pageOf(-1, 1, 9), pageOf(12, 1, 9), pageOf(math.MinInt, 1, 9), pageOf(math.MaxInt, 1, 9),
		{No: 1, LSN: 1}, {No: 1, LSN: 1, Data: []byte{}}, {No: 1, LSN: 1, Data: data(9)[:479]}, {No: 1, LSN: 1, Data: append(data(9), 0)}, {No: 1, LSN: 1, Data: append(data(9), data(9)...)},
		{No: 3, LSN: 1, Data: data(9)[:1]},
		pageOf(1, 6, 9), pageOf(1, 7, 9), pageOf(3, 6, 9), pageOf(1, math.MaxUint64, 9), pageOf(1, 1<<63, 9),
	} {
		if e := b.pool.Put(x); e != api.ErrArg {
			t.Errorf("Put(%d, LSN %d, %d bytes) = %d", x.No, x.LSN, len(x.Data), e)
		}
		b.at("[1 2]", "[1 2]")
	}
	b.tells(pageOf(1, 5, 1), pageOf(2, 4, 2))
	if b.disk.Writes() != 0 {
		t.Error("a Put that was refused wrote")
	}
	b.records(1)
	b.put(pageOf(1, 6, 9))
	b.tells(pageOf(1, 6, 9))
	if e := b.log.Cut(7); e != api.OK {
		t.Fatal(e)
	}
	b.put(pageOf(1, 6, 8)) // a record that is gone was there
	if e := b.pool.Put(pageOf(1, 7, 7)); e != api.ErrArg {
		t.Errorf("Put with the LSN that comes, behind a Cut = %d", e)
	}
	b.tells(pageOf(1, 6, 8))
}

// Promise 5.1: on a Log without records only LSN 0 is below Next.
func TestPutOnFreshLog(t *testing.T) {
	b := newBench(t, pages, 2)
	if e := b.pool.Put(pageOf(0, 1, 1)); e != api.ErrArg {
		t.Errorf("Put with LSN 1 = %d", e)
	}
	b.at("[]", "[]")
	b.put(pageOf(0, 0, 1))
	b.evict(0)
	b.fileHas(pageOf(0, 0, 1))
}

// Promise 5.1: Evict writes a dirty page, and then it is not held.
func TestEvict(t *testing.T) {
	b := newBench(t, pages, 4)
	b.records(3)
	b.put(pageOf(3, 2, 1), pageOf(4, 1, 2))
	b.tells(blank(5))
	b.evict(5, 6) // neither is dirty
	b.at("[3 4]", "[3 4]")
	if b.disk.Writes() != 0 || b.log.Flushed() != 0 {
		t.Error("Evict wrote for a page that is not dirty")
	}
	for _, no := range []int{-1, 12, math.MinInt, math.MaxInt} {
		if e := b.pool.Evict(no); e != api.ErrArg {
			t.Errorf("Evict(%d) = %d", no, e)
		}
	}
	b.at("[3 4]", "[3 4]")
	b.evict(3)
	b.at("[4]", "[4]")
	b.fileHas(pageOf(3, 2, 1), blank(4))
	b.tells(pageOf(3, 2, 1))
	b.at("[3 4]", "[4]")
	b.evict(4, 3)
	b.at("[]", "[]")
	b.fileHas(pageOf(3, 2, 1), pageOf(4, 1, 2))
	writes := b.disk.Writes()
	b.evict(3, 4, 3)
	if b.disk.Writes() != writes {
		t.Error("Evict wrote for a page that is not held")
	}
}

// Promise 5.1: Evict and Flush flush the Log only for an LSN above Flushed.
func TestLogIsFlushedWhereNeeded(t *testing.T) {
	b := newBench(t, pages, 4)
	save := map[string]func() api.Errno{
		"Evict": func() api.Errno { return b.pool.Evict(3) },
		"Flush": b.pool.Flush,
	}
	for _, name := range []string{"Evict", "Flush"} {
		last := b.records(2)
		if e := b.log.Flush(); e != api.OK {
			t.Fatal(e)
		}
		b.records(2)
		b.put(pageOf(3, last, byte(last)))
		if e := save[name](); e != api.OK || b.log.Flushed() != last {
			t.Errorf("%s of LSN %d: %d, Flushed() = %d", name, last, e, b.log.Flushed())
		}
		b.fileHas(pageOf(3, last, byte(last)))
		b.put(pageOf(3, last+1, byte(last)))
		if e := save[name](); e != api.OK || b.log.Flushed() != last+2 {
			t.Errorf("%s of LSN %d: %d, Flushed() = %d", name, last+1, e, b.log.Flushed())
		}
		b.fileHas(pageOf(3, last+1, byte(last)))
	}
}

// Promise 5.1: Flush writes all dirty pages, and they stay.
func TestFlush(t *testing.T) {
	b := newBench(t, pages, 12)
	if e := b.pool.Flush(); e != api.OK || b.disk.Writes() != 0 {
		t.Errorf("Flush of none = %d, %d Writes", e, b.disk.Writes())
	}
	var want []page.Page
	for _, no := range []int{9, 2, 11, 0, 4, 10, 1, 5, 8, 3} {
		want = append(want, pageOf(no, b.records(1), byte(no)))
	}
	b.put(want...)
	b.tells(blank(7))
	b.at("[0 1 2 3 4 5 7 8 9 10 11]", "[0 1 2 3 4 5 8 9 10 11]")
	if e := b.pool.Flush(); e != api.OK {
		t.Errorf("Flush = %d", e)
	}
	b.at("[0 1 2 3 4 5 7 8 9 10 11]", "[]")
	b.fileHas(want...)
	b.fileHas(blank(6), blank(7))
	writes := b.disk.Writes()
	if e := b.pool.Flush(); e != api.OK || b.disk.Writes() != writes {
		t.Errorf("a second Flush = %d, and writes", e)
	}
	b.tells(want...)
}

// Promise 5.1: Flush goes by rising numbers, whatever was put when; a page ahead of the one at which the disk died is clean.
func TestFlushRises(t *testing.T) {
	order := []int{9, 2, 11, 0, 4}
	sorted := slices.Sorted(slices.Values(order))
	seen := map[int]bool{}
	for fuse := range 200 {
		b := newBench(t, pages, 6)
		lsn := b.records(1)
		for _, no := range order {
			b.put(pageOf(no, lsn, byte(no)))
		}
		b.disk.Fuse(fuse)
		e := b.pool.Flush()
		left := b.pool.Dirty()
		done := len(order) - len(left)
		if !slices.Equal(left, sorted[done:]) {
			t.Fatalf("fuse %d: Dirty() = %v", fuse, left)
		}
		if (e == api.OK) != (len(left) == 0) || e != api.OK && e != api.ErrDead {
			t.Fatalf("fuse %d: Flush = %d with %v left", fuse, e, left)
		}
		for _, no := range order {
			b.tells(pageOf(no, lsn, byte(no)))
		}
		seen[done] = true
		b.disk.Crash(nil)
		f, _ := page.Open(b.disk, 0, pages)
		for _, no := range sorted[:done] {
			if x, e := f.Read(no); e != api.OK || !same(x, pageOf(no, lsn, byte(no))) {
				t.Errorf("fuse %d: page %d was written, but does not last", fuse, no)
			}
		}
		for _, no := range sorted[min(done+1, len(sorted)):] {
			if x, e := f.Read(no); e != api.OK || !same(x, blank(no)) {
				t.Errorf("fuse %d: page %d was written too early", fuse, no)
			}
		}
	}
	if len(seen) != len(order)+1 {
		t.Errorf("the fuses met %v pages alone", seen)
	}
}

// Promise 5.1: a page that is put as the File has it is in the File as it is.
func TestDirtyIsWhatTheFileHasNot(t *testing.T) {
	b := newBench(t, pages, 4)
	b.records(3)
	b.put(pageOf(3, 1, 1))
	b.evict(3)
	writes := b.disk.Writes()
	for _, held := range []bool{false, true} {
		if !held {
			b.evict(3)
		}
		b.put(pageOf(3, 1, 1))
		b.at("[3]", "[]")
	}
	b.put(pageOf(3, 2, 1)) // the LSN is the page's, too
	b.at("[3]", "[3]")
	b.put(pageOf(3, 1, 1))
	b.at("[3]", "[]")
	b.put(pageOf(3, 1, 2))
	b.at("[3]", "[3]")
	b.put(pageOf(3, 1, 1), blank(4))
	b.at("[3 4]", "[]")
	if e := b.pool.Flush(); e != api.OK || b.disk.Writes() != writes {
		t.Errorf("Flush = %d, and writes what is there", e)
	}
	b.evict(3, 4)
	b.tells(pageOf(3, 1, 1), blank(4))
}

// Promise 5.1: no more than frames are held, and none goes while there is room.
func TestFrames(t *testing.T) {
	for _, frames := range []int{1, 2, 3, 11, 12, 13, 63, 64} {
		b := newBench(t, 80, frames)
		lsn := b.records(2)
		var want []page.Page
		for no := range 80 {
			want = append(want, blank(no))
		}
		var held []int
		for i := range 240 {
			no := i * 7 % 80
			if i%3 == 0 {
				b.tells(want[no])
			} else {
				want[no] = pageOf(no, lsn, byte(i))
				b.put(want[no])
			}
			after := b.pool.Held()
			gone := 0
			for _, n := range held {
				if !slices.Contains(after, n) {
					gone++
				}
			}
			wantGone := 0
			if len(held) == frames && !slices.Contains(held, no) {
				wantGone = 1
			}
			if len(after) > frames || gone != wantGone || !slices.Contains(after, no) || !slices.IsSorted(after) {
				t.Fatalf("%d frames, step %d: %v, then %v", frames, i, held, after)
			}
			held = after
			if i%5 == 0 {
				b.evict(held[i%len(held)])
				held = b.pool.Held()
			}
		}
		b.tells(want...)
	}
}

// Promise 5.1: an Evict gives its frame back.
func TestEvictMakesRoom(t *testing.T) {
	b := newBench(t, pages, 3)
	lsn := b.records(1)
	b.put(pageOf(1, lsn, 1), pageOf(2, lsn, 2), pageOf(3, lsn, 3))
	b.evict(2)
	b.put(pageOf(4, lsn, 4))
	b.at("[1 3 4]", "[1 3 4]")
	b.evict(1, 3, 4)
	b.tells(blank(5), pageOf(1, lsn, 1), pageOf(4, lsn, 4))
	b.at("[1 4 5]", "[]")
}

// model: what a Pool should tell, however many frames it has.
type model struct {
	put [pages]page.Page
}

func newModel() *model {
	m := &model{}
	for no := range pages {
		m.put[no] = blank(no)
	}
	return m
}

// check holds the Pool against the model, past Get, so that nothing moves.
func (m *model) check(b *bench) {
	b.t.Helper()
	held, dirty := b.pool.Held(), b.pool.Dirty()
	if !slices.IsSorted(held) || !slices.IsSorted(dirty) {
		b.t.Fatalf("Held() = %v, Dirty() = %v", held, dirty)
	}
	for no := range pages {
		x, e := b.file.Read(no)
		if e != api.OK {
			b.t.Fatalf("the File's page %d: %d", no, e)
		}
		if x.LSN > b.log.Flushed() {
			b.t.Fatalf("page %d is in the File with LSN %d, Flushed() = %d", no, x.LSN, b.log.Flushed())
		}
		if slices.Contains(dirty, no) == same(x, m.put[no]) {
			b.t.Fatalf("Dirty() = %v, page %d, File's LSN %d, put LSN %d", dirty, no, x.LSN, m.put[no].LSN)
		}
		if slices.Contains(dirty, no) && !slices.Contains(held, no) {
			b.t.Fatalf("page %d is dirty, but not held", no)
		}
	}
}

// step does one thing; what it is hangs on r alone, not on the Pool.
func (m *model) step(r *rand.Rand, b *bench) {
	b.t.Helper()
	no := r.Intn(pages)
	switch r.Intn(8) {
	case 0:
		b.records(1)
	case 1, 2, 3:
		x := pageOf(no, uint64(r.Intn(int(b.log.Next()))), byte(r.Intn(3)))
		b.put(x)
		m.put[no] = x
	case 4, 5:
		b.tells(m.put[no])
	case 6:
		b.evict(no)
		if slices.Contains(b.pool.Held(), no) {
			b.t.Fatalf("page %d is held behind Evict", no)
		}
		b.fileHas(m.put[no])
	case 7:
		if r.Intn(5) > 0 {
			return
		}
		held := b.pool.Held()
		if e := b.pool.Flush(); e != api.OK || len(b.pool.Dirty()) != 0 || !slices.Equal(held, b.pool.Held()) {
			b.t.Fatalf("Flush = %d, Dirty() = %v, Held() = %v", e, b.pool.Dirty(), b.pool.Held())
		}
		b.fileHas(m.put[:]...)
	}
}

// Promise 5.2 and W10: the same calls are answered the same, however many frames there are; nothing is in the File whose LSN is not flushed.
func TestUnseen(t *testing.T) {
	for _, frames := range []int{1, 2, 3, 5, 11, 12, 64} {
		r := noise()
		b, m := newBench(t, pages, frames), newModel()
		for range 1500 {
			if b.log.Room() < 100 {
				if e := b.log.Cut(b.log.Next()); e != api.OK {
					t.Fatal(e)
				}
			}
			m.step(r, b)
			m.check(b)
			if len(b.pool.Held()) > frames {
				t.Fatalf("%d frames: Held() = %v", frames, b.pool.Held())
			}
		}
		for no := range pages {
			b.tells(m.put[no])
		}
		if t.Failed() {
			t.Fatalf("with %d frames", frames)
		}
	}
}

// Promise 5.2 and W10: evictions strewn in change no answer either.
func TestUnseenEvictions(t *testing.T) {
	for seed := range int64(30) {
		r, strewn := noise(), rand.New(rand.NewSource(seed))
		b, m := newBench(t, pages, 1+int(seed)%6), newModel()
		for range 200 {
			m.step(r, b)
			for range strewn.Intn(3) {
				b.evict(strewn.Intn(pages))
			}
			m.check(b)
		}
	}
}

// keepSome: some of the Writes that wait.
func keepSome(r *rand.Rand, waiting int) []int {
	var l []int
	odds := r.Intn(4)
	for i := range waiting {
		if r.Intn(3) < odds {
			l = append(l, i)
		}
	}
	return l
}

// Promise 5.2: the disk dies at whatever step; behind the crash no page is in the File whose record the Log has not, and each page is as it was put sometime, or never.
func TestEachStep(t *testing.T) {
	r := noise()
	for _, frames := range []int{1, 2, 4} {
		for fuse := 0; ; fuse++ {
			b := newBench(t, pages, frames)
			b.disk.Fuse(fuse)
			puts, e := liveALittle(b)
			if e != api.OK && e != api.ErrDead {
				t.Fatalf("fuse %d: %d", fuse, e)
			}
			died := b.disk.Dead()
			b.disk.Crash(keepSome(r, b.disk.Waiting()))
			after := benchOn(t, b.disk, b.disk, page.Need(pages), pages, frames)
			for no := range pages {
				x, e := after.pool.Get(no)
				if e != api.OK || x.LSN > after.log.Flushed() {
					t.Fatalf("%d frames, fuse %d: page %d has LSN %d, the Log ends with %d; %d", frames, fuse, no, x.LSN, after.log.Flushed(), e)
				}
				if !same(x, blank(no)) && !slices.ContainsFunc(puts, func(y page.Page) bool { return same(x, y) }) {
					t.Fatalf("%d frames, fuse %d: page %d is as it never was", frames, fuse, no)
				}
			}
			if !died {
				break
			}
		}
	}
}

// liveALittle: a short life up to the first error, and what was put in it, also that which came back with the error.
func liveALittle(b *bench) ([]page.Page, api.Errno) {
	var puts []page.Page
	for i, no := range []int{3, 1, 3, 0, 5, 1, 7, 3} {
		lsn, e := b.log.Append(data(byte(i))[:i*5])
		if e != api.OK {
			return puts, e
		}
		puts = append(puts, pageOf(no, lsn, byte(i)))
		if e := b.pool.Put(puts[i]); e != api.OK {
			return puts, e
		}
		if _, e := b.pool.Get(i); e != api.OK {
			return puts, e
		}
		if i != 4 {
			continue
		}
		if e := b.pool.Evict(5); e != api.OK {
			return puts, e
		}
	}
	return puts, b.pool.Flush()
}

// Promise 5.2: where the Log can't be flushed, the File is not written to.
func TestDeadLog(t *testing.T) {
	logs := newDisk(t, sectors)
	b := benchOn(t, newDisk(t, page.Need(pages)), logs, 0, pages, 2)
	b.records(1)
	if e := b.log.Flush(); e != api.OK {
		t.Fatal(e)
	}
	b.records(1)
	b.put(pageOf(0, 1, 1), pageOf(1, 2, 2))
	logs.Fuse(0)
	if e := b.pool.Flush(); e != api.ErrDead {
		t.Errorf("Flush = %d", e)
	}
	b.at("[0 1]", "[1]")
	b.put(pageOf(0, 2, 3))
	for _, no := range []int{0, 1} {
		if e := b.pool.Evict(no); e != api.ErrDead {
			t.Errorf("Evict(%d) = %d", no, e)
		}
	}
	if x, e := b.pool.Get(5); e != api.ErrDead || !isZero(x) {
		t.Errorf("Get(5) = %v, %d", x, e)
	}
	if e := b.pool.Put(pageOf(6, 1, 4)); e != api.ErrDead {
		t.Errorf("Put(6) = %d", e)
	}
	b.at("[0 1]", "[0 1]")
	b.fileHas(pageOf(0, 1, 1), blank(1))
	b.tells(pageOf(0, 2, 3), pageOf(1, 2, 2))
	b.put(pageOf(0, 1, 5)) // its record lasts
	b.evict(0)
	b.fileHas(pageOf(0, 1, 5))
}

// Promises 5.1 and 5.2: on a dead disk what is held is told as it was put; the disk's error is answered where the disk is needed.
func TestDeadDisk(t *testing.T) {
	b := newBench(t, pages, 3)
	lsn := b.records(1)
	b.put(pageOf(4, lsn, 1))
	b.tells(blank(5))
	b.disk.Fuse(0)
	if x, e := b.pool.Get(6); e != api.ErrDead || !isZero(x) {
		t.Errorf("Get(6) = %v, %d", x, e)
	}
	b.put(pageOf(4, lsn, 2), pageOf(7, lsn, 3))
	for _, e := range []api.Errno{b.pool.Flush(), b.pool.Evict(4), b.pool.Evict(7), b.pool.Flush()} {
		if e != api.ErrDead {
			t.Errorf("%d, want ErrDead", e)
		}
	}
	b.at("[4 5 7]", "[4 7]")
	b.tells(pageOf(4, lsn, 2), blank(5), pageOf(7, lsn, 3))
	for _, no := range []int{-1, pages} {
		x, e := b.pool.Get(no)
		if e != api.ErrArg || !isZero(x) || b.pool.Evict(no) != api.ErrArg || b.pool.Put(pageOf(no, 0, 1)) != api.ErrArg {
			t.Errorf("page %d is taken on a dead disk: %d", no, e)
		}
	}
	b.evict(5)
	b.at("[4 7]", "[4 7]")
}

// Promise 5.1: a page whose Write died is dirty until it is written again, whatever the File has of it.
func TestDirtyBehindADeath(t *testing.T) {
	for fuse := range 30 {
		b := newBench(t, pages, 2)
		lsn := b.records(1)
		if e := b.log.Flush(); e != api.OK {
			t.Fatal(e)
		}
		b.put(pageOf(4, lsn, 1))
		b.disk.Fuse(fuse)
		e := b.pool.Flush()
		b.disk.Crash(nil)
		if e == api.OK {
			b.at("[4]", "[]")
			continue
		}
		b.at("[4]", "[4]")
		b.tells(pageOf(4, lsn, 1))
		b.evict(4)
		b.fileHas(pageOf(4, lsn, 1))
	}
}

// Promise 5.2: behind a Write that died the File may have the page as it should be; then to put it back asks for another Write.
func TestPutBackBehindADeath(t *testing.T) {
	for fuse := range 30 {
		b := newBench(t, pages, 2)
		b.tells(blank(4))
		b.put(pageOf(4, 0, 1))
		b.disk.Fuse(fuse)
		if b.pool.Flush() == api.OK {
			continue
		}
		var all []int
		for i := range b.disk.Waiting() {
			all = append(all, i)
		}
		b.disk.Crash(all)
		b.put(blank(4))
		b.evict(4)
		b.fileHas(blank(4))
		b.tells(blank(4))
	}
}

// Promise 5.1: a page that the File can't tell is an error, drives out nothing, and is whole again once it is put.
func TestSpoiltPage(t *testing.T) {
	b := newBench(t, pages, 2)
	lsn := b.records(1)
	b.put(pageOf(1, lsn, 1), pageOf(2, lsn, 2))
	if e := b.disk.Write(8*9, data(7)[:api.Sector]); e != api.OK {
		t.Fatal(e)
	}
	if x, e := b.pool.Get(9); e != api.ErrForm || !isZero(x) {
		t.Errorf("Get of a spoilt page = %v, %d", x, e)
	}
	b.at("[1 2]", "[1 2]")
	b.evict(1)
	b.put(blank(9)) // noughts are not what the File has there
	b.at("[2 9]", "[2 9]")
	b.evict(9)
	b.fileHas(blank(9), pageOf(1, lsn, 1))
	b.tells(blank(9))
}

// Rule 3: nothing that is handed in is kept or changed, nothing that is answered is the Pool's own.
func TestNothingIsShared(t *testing.T) {
	b := newBench(t, pages, 2)
	lsn := b.records(1)
	own := append(data(1), data(2)...)
	x := page.Page{No: 3, LSN: lsn, Data: own[:api.Bytes]}
	for range 2 { // once into a free frame, once into the page's own
		copy(own, data(1))
		b.put(x)
		clear(own)
		b.tells(pageOf(3, lsn, 1))
	}
	got, _ := b.pool.Get(3)
	clear(got.Data[:cap(got.Data)])
	b.tells(pageOf(3, lsn, 1))
	b.evict(3)
	for range 2 { // once read from the File, once held
		got, _ := b.pool.Get(3)
		clear(got.Data[:cap(got.Data)])
		b.tells(pageOf(3, lsn, 1))
	}
	copy(own, data(5))
	b.put(x)
	if !bytes.Equal(own, append(data(5), make([]byte, api.Bytes)...)) {
		t.Error("Put changed what it was given")
	}
	for _, ask := range []func() []int{b.pool.Held, b.pool.Dirty} {
		l := ask()
		l[0] = 99
		b.at("[3]", "[3]")
	}
	b.fileHas(pageOf(3, lsn, 1))
}

// Promise 5.1: two Pools of two Files stand beside each other on one Log.
func TestTwoFilesOneLog(t *testing.T) {
	d := newDisk(t, 2*page.Need(pages)+sectors)
	a := benchOn(t, d, d, 2*page.Need(pages), pages, 2)
	f, e := page.Open(d, page.Need(pages), pages)
	if e != api.OK {
		t.Fatal(e)
	}
	p, e := pool.New(f, a.log, 2)
	if e != api.OK {
		t.Fatal(e)
	}
	b := &bench{t: t, disk: d, logs: d, file: f, log: a.log, pool: p}
	a.records(2)
	a.put(pageOf(3, 1, 1))
	b.put(pageOf(3, 2, 2))
	a.evict(3)
	b.at("[3]", "[3]")
	b.fileHas(blank(3))
	b.evict(3)
	a.fileHas(pageOf(3, 1, 1))
	b.fileHas(pageOf(3, 2, 2))
}

// Promise 5.3: whatever is handed in, on a disk that dies and lives again, each call ends, and none panics.
func TestEnds(t *testing.T) {
	r := noise()
	numbers := []int{math.MinInt, -1, 0, 1, 2, 3, 11, 12, math.MaxInt}
	lsns := []uint64{0, 1, 2, 5, 1 << 63, math.MaxUint64}
	sizes := []int{0, 1, 479, 480, 480, 480, 481, 5000}
	for range 60 {
		b := newBench(t, pages, 1+r.Intn(3))
		for range 100 {
			no := numbers[r.Intn(len(numbers))]
			switch r.Intn(8) {
			case 0:
				b.log.Append(nil)
			case 1, 2:
				b.pool.Put(page.Page{No: no, LSN: lsns[r.Intn(len(lsns))], Data: make([]byte, sizes[r.Intn(len(sizes))])})
			case 3, 4:
				if x, e := b.pool.Get(no); (e == api.OK) == isZero(x) {
					t.Fatalf("Get(%d) = %v, %d", no, x, e)
				}
			case 5:
				b.pool.Evict(no)
			case 6:
				b.pool.Flush()
			case 7:
				if b.disk.Dead() {
					b.disk.Crash(keepSome(r, b.disk.Waiting()))
				} else {
					b.disk.Fuse(r.Intn(100))
				}
			}
			if len(b.pool.Held()) > 3 || len(b.pool.Dirty()) > len(b.pool.Held()) {
				t.Fatalf("Held() = %v, Dirty() = %v", b.pool.Held(), b.pool.Dirty())
			}
		}
	}
}

func ExamplePool() {
	d, _ := disk.New(page.Need(12) + 200)
	f, _ := page.Open(d, 0, 12)
	l, _ := wal.Open(d, page.Need(12), 200)
	p, _ := pool.New(f, l, 2)
	lsn, _ := l.Append([]byte("page 3 is full of a"))
	p.Put(page.Page{No: 3, LSN: lsn, Data: bytes.Repeat([]byte("a"), api.Bytes)})
	fmt.Println(p.Held(), p.Dirty(), l.Flushed())
	p.Evict(3)
	fmt.Println(p.Held(), p.Dirty(), l.Flushed())
	x, _ := p.Get(3)
	fmt.Println(x.LSN, string(x.Data[:5]))
	// Output:
	// [3] [3] 0
	// [] [] 1
	// 1 aaaaa
}
