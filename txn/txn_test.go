package txn_test

import (
	"bytes"
	"fmt"
	"math"
	"math/rand"
	"slices"
	"testing"

	"terrier/api"
	"terrier/disk"
	"terrier/page"
	"terrier/txn"
	"terrier/wal"
)

const (
	pages = 6
	logs  = 80 // sectors of the log
)

// noise is the same at each run, so that a failure comes again.
func noise() *rand.Rand { return rand.New(rand.NewSource(1)) }

// text: so many bytes that hang on c and on where they stand, so that a shift or a mixture would show.
func text(c byte, size int) []byte {
	b := make([]byte, size)
	for i := range b {
		b[i] = c + byte(i%251)*byte(i/48+1)
	}
	return b
}

func newDisk(t testing.TB, sectors int) *disk.Disk {
	t.Helper()
	d, e := disk.New(sectors)
	if e != api.OK {
		t.Fatalf("New(%d) = %d", sectors, e)
	}
	return d
}

func open(t testing.TB, d *disk.Disk, pages, log, frames int) *txn.Store {
	t.Helper()
	s, e := txn.Open(d, pages, log, frames)
	if e != api.OK || s == nil {
		t.Fatalf("Open(%d, %d, %d) = %v, %d", pages, log, frames, s, e)
	}
	if s.Busy() || s.Pages() != pages {
		t.Fatalf("behind Open: Busy() = %v, Pages() = %d", s.Busy(), s.Pages())
	}
	return s
}

func newStore(t testing.TB, log, frames int) (*disk.Disk, *txn.Store) {
	t.Helper()
	d := newDisk(t, txn.Need(pages, log))
	return d, open(t, d, pages, log, frames)
}

// ok: what was called just before must have answered OK.
func ok(t testing.TB, what string, l ...api.Errno) {
	t.Helper()
	for i, e := range l {
		if e != api.OK {
			t.Fatalf("%s: call %d = %d", what, i, e)
		}
	}
}

func is(t testing.TB, what string, got, want api.Errno) {
	t.Helper()
	if got != want {
		t.Errorf("%s = %d, want %d", what, got, want)
	}
}

func mustSave(t testing.TB, s *txn.Store, want int) {
	t.Helper()
	if n, e := s.Save(); n != want || e != api.OK {
		t.Fatalf("Save() = %d, %d, want %d", n, e, want)
	}
}

// image: all pages, one by one.
type image [][]byte

func blank(pages int) image {
	l := make(image, pages)
	for i := range l {
		l[i] = make([]byte, api.Bytes)
	}
	return l
}

func (m image) copied() image {
	l := make(image, len(m))
	for i := range m {
		l[i] = bytes.Clone(m[i])
	}
	return l
}

func (m image) with(no, at int, b []byte) image {
	l := m.copied()
	copy(l[no][at:], b)
	return l
}

func (m image) equal(o image) bool {
	return slices.EqualFunc(m, o, bytes.Equal)
}

func imageOf(t testing.TB, s *txn.Store) image {
	t.Helper()
	var l image
	for no := range s.Pages() {
		b, e := s.Read(no)
		if e != api.OK || len(b) != api.Bytes {
			t.Fatalf("Read(%d) = %d bytes, %d", no, len(b), e)
		}
		l = append(l, b)
	}
	return l
}

func tells(t testing.TB, what string, s *txn.Store, want image) {
	t.Helper()
	got := imageOf(t, s)
	for no := range want {
		if i := firstUnlike(got[no], want[no]); i >= 0 {
			t.Fatalf("%s: page %d has % x.. at %d, want % x..", what, no, got[no][i:min(i+6, api.Bytes)], i, want[no][i:min(i+6, api.Bytes)])
		}
	}
}

func firstUnlike(a, b []byte) int {
	for i := range a {
		if a[i] != b[i] {
			return i
		}
	}
	return -1
}

// Promise 6.1: the sectors of the pages' File and of the log.
func TestNeed(t *testing.T) {
	for _, pages := range []int{-5, 0, 1, 2, 6, 4096} {
		for _, log := range []int{0, 64, 65, 16384} {
			if got, want := txn.Need(pages, log), page.Need(pages)+log; got != want {
				t.Errorf("Need(%d, %d) = %d, want %d", pages, log, got, want)
			}
		}
	}
	if txn.Need(6, 64) != 6*8+80+64 {
		t.Errorf("Need(6, 64) = %d", txn.Need(6, 64))
	}
}

// Promise 6.1: what Open refuses, on a disk that lives and on a dead one.
func TestOpenRefuses(t *testing.T) {
	d := newDisk(t, txn.Need(pages, logs))
	for range 2 {
		for _, c := range [][3]int{
			{0, logs, 2}, {-1, logs, 2}, {4097, logs, 2}, {math.MinInt, logs, 2}, {math.MaxInt, logs, 2},
			{pages, 63, 2}, {pages, 0, 2}, {pages, -1, 2}, {pages, 16385, 2}, {pages, math.MinInt, 2}, {pages, math.MaxInt, 2},
			{pages, logs, 0}, {pages, logs, -1}, {pages, logs, 65}, {pages, logs, math.MinInt}, {pages, logs, math.MaxInt},
			{pages + 1, logs, 2}, {pages, logs + 1, 2}, {4096, 16384, 64},
		} {
			if s, e := txn.Open(d, c[0], c[1], c[2]); s != nil || e != api.ErrArg {
				t.Errorf("Open(%v) = %v, %d", c, s, e)
			}
		}
		if s, e := txn.Open(nil, pages, logs, 2); s != nil || e != api.ErrArg {
			t.Errorf("Open of no disk = %v, %d", s, e)
		}
		d.Fuse(0)
	}
	great := newDisk(t, 65536)
	for _, c := range [][3]int{{4097, logs, 2}, {0, logs, 2}, {pages, 63, 2}, {pages, 16385, 2}, {pages, logs, 65}} {
		if s, e := txn.Open(great, c[0], c[1], c[2]); s != nil || e != api.ErrArg {
			t.Errorf("Open(%v) on a great disk = %v, %d", c, s, e)
		}
	}
	if s, e := txn.Open(d, pages, logs, 2); s != nil || e != api.ErrDead {
		t.Errorf("Open on a dead disk = %v, %d", s, e)
	}
}

// Promise 6.1: the least and the greatest of each bound, on just as many sectors as are needed, and on more.
func TestOpenBounds(t *testing.T) {
	for _, c := range [][3]int{{1, 64, 1}, {1, 64, 64}, {4096, 64, 1}, {1, 16384, 1}, {4096, 16384, 64}} {
		for _, more := range []int{0, 9} {
			d := newDisk(t, txn.Need(c[0], c[1])+more)
			s := open(t, d, c[0], c[1], c[2])
			last := c[0] - 1
			ok(t, "a transaction", s.Begin(), s.Write(last, 470, text(7, 10)), s.Commit())
			d.Crash(nil)
			s = open(t, d, c[0], c[1], c[2])
			if b, e := s.Read(last); e != api.OK || !bytes.Equal(b[470:], text(7, 10)) {
				t.Errorf("%v: Read(%d) = % x, %d", c, last, b, e)
			}
		}
	}
}

// Promise 6.1: a disk that was never written to has pages of noughts, and none is open.
func TestOpenFresh(t *testing.T) {
	d, s := newStore(t, logs, 2)
	tells(t, "fresh", s, blank(pages))
	if s.Busy() || s.Undone() != 0 || s.Pages() != pages {
		t.Errorf("Busy %v, Undone %d, Pages %d", s.Busy(), s.Undone(), s.Pages())
	}
	tells(t, "opened again", open(t, d, pages, logs, 2), blank(pages))
}

// Promise 6.1: what was committed is there, in order; nothing of what was aborted, gone back behind, or never closed, whether its pages were evicted or not.
func TestOpenTellsCommitted(t *testing.T) {
	for _, evict := range []bool{false, true} {
		d, s := newStore(t, 200, 3)
		want := blank(pages)
		write := func(no, at int, b []byte) {
			t.Helper()
			ok(t, "Write", s.Write(no, at, b))
			if evict {
				ok(t, "Evict", s.Evict(no))
			}
		}
		for k := range 5 {
			ok(t, "Begin", s.Begin())
			write(0, 10*k, text(byte(k+1), 30)) // each over a part of the one ahead
			want = want.with(0, 10*k, text(byte(k+1), 30))
			write(k, 400, text(byte(k+9), 80))
			want = want.with(k, 400, text(byte(k+9), 80))
			mustSave(t, s, 1)
			write(0, 0, text(200, 300))
			ok(t, "Back", s.Back(1))
			ok(t, "Commit", s.Commit(), s.Begin())
			write(0, 5, text(100, 200))
			write(5, 5, text(101, 100))
			ok(t, "Abort", s.Abort())
		}
		ok(t, "Begin", s.Begin())
		write(0, 0, text(222, 400))
		write(3, 0, text(223, 60))
		tells(t, "ahead", s, want.with(0, 0, text(222, 400)).with(3, 0, text(223, 60)))
		d.Crash(nil)
		for range 3 {
			s = open(t, d, pages, 200, 2)
			tells(t, "behind", s, want)
			d.Crash(nil)
		}
	}
}

// Promise 6.2: what each call answers with none open, and with one.
func TestStates(t *testing.T) {
	_, s := newStore(t, logs, 2)
	for range 3 {
		if s.Busy() {
			t.Fatal("Busy with none open")
		}
		is(t, "Write", s.Write(0, 0, []byte("a")), api.ErrState)
		is(t, "Write with wrong arguments", s.Write(-1, -1, make([]byte, 500)), api.ErrState)
		is(t, "Back", s.Back(1), api.ErrState)
		is(t, "Commit", s.Commit(), api.ErrState)
		is(t, "Abort", s.Abort(), api.ErrState)
		if n, e := s.Save(); n != 0 || e != api.ErrState {
			t.Errorf("Save() = %d, %d", n, e)
		}
		is(t, "Checkpoint", s.Checkpoint(), api.OK)
		is(t, "Evict", s.Evict(0), api.OK)
		is(t, "Begin", s.Begin(), api.OK)
		if !s.Busy() {
			t.Fatal("not Busy with one open")
		}
		is(t, "Begin", s.Begin(), api.ErrState)
		is(t, "Checkpoint", s.Checkpoint(), api.ErrState)
		is(t, "Write", s.Write(0, 0, []byte("a")), api.OK)
		is(t, "Begin", s.Begin(), api.ErrState)
		is(t, "Checkpoint", s.Checkpoint(), api.ErrState)
		is(t, "Abort", s.Abort(), api.OK)
		if s.Busy() {
			t.Fatal("Busy behind Abort")
		}
		is(t, "Begin", s.Begin(), api.OK)
		is(t, "Commit", s.Commit(), api.OK)
	}
	tells(t, "states", s, blank(pages))
}

// Promise 6.2: which pages and places there are.
func TestArguments(t *testing.T) {
	_, s := newStore(t, 200, 2)
	for _, no := range []int{-1, pages, math.MinInt, math.MaxInt} {
		if b, e := s.Read(no); b != nil || e != api.ErrArg {
			t.Errorf("Read(%d) = %v, %d", no, b, e)
		}
		is(t, "Evict", s.Evict(no), api.ErrArg)
	}
	ok(t, "Begin", s.Begin())
	for _, c := range []struct{ no, at, size int }{
		{-1, 0, 1}, {pages, 0, 1}, {math.MinInt, 0, 1}, {math.MaxInt, 0, 1}, {pages, 0, 0},
		{0, -1, 1}, {0, -1, 0}, {0, math.MinInt, 1}, {0, math.MinInt, 0},
		{0, 480, 1}, {0, 481, 0}, {0, 1, 480}, {0, 0, 481}, {0, 479, 2}, {0, 0, 5000},
		{0, math.MaxInt, 0}, {0, math.MaxInt, 1}, {0, math.MaxInt - 100, 200}, {0, 1 << 62, 0},
	} {
		is(t, fmt.Sprintf("Write%v", c), s.Write(c.no, c.at, make([]byte, c.size)), api.ErrArg)
	}
	want := blank(pages)
	tells(t, "refused", s, want)
	for i, c := range []struct{ no, at, size int }{{0, 0, 480}, {1, 479, 1}, {2, 480, 0}, {pages - 1, 0, 1}, {3, 240, 240}, {4, 0, 0}} {
		ok(t, "Write", s.Write(c.no, c.at, text(byte(i+1), c.size)))
		want = want.with(c.no, c.at, text(byte(i+1), c.size))
		tells(t, "written", s, want)
	}
	ok(t, "a Write of nil", s.Write(0, 0, nil))
	tells(t, "nil", s, want)
	ok(t, "Commit", s.Commit())
	tells(t, "committed", s, want)
}

// Promise 6.2: a page is told as it is now, within a transaction and with none open, evicted or not.
func TestReadTellsNow(t *testing.T) {
	_, s := newStore(t, logs, 2)
	want := blank(pages)
	tells(t, "none open", s, want)
	ok(t, "Begin", s.Begin())
	for i := range 8 {
		ok(t, "Write", s.Write(i%3, i, text(byte(i+1), 9)))
		want = want.with(i%3, i, text(byte(i+1), 9))
		tells(t, "open", s, want)
		ok(t, "Evict", s.Evict(i%3))
		tells(t, "evicted", s, want)
	}
	ok(t, "Commit", s.Commit())
	tells(t, "committed", s, want)
	ok(t, "Checkpoint", s.Checkpoint())
	tells(t, "behind a Checkpoint", s, want)
}

// Promise 6.2: the numbers of saves, and which of them Back knows.
func TestSaves(t *testing.T) {
	_, s := newStore(t, 300, 2)
	ok(t, "Begin", s.Begin())
	is(t, "Back with no save", s.Back(1), api.ErrArg)
	images := []image{blank(pages)}
	put := func(c byte) {
		t.Helper()
		ok(t, "Write", s.Write(int(c)%pages, int(c), text(c, 20)))
		images = append(images, images[len(images)-1].with(int(c)%pages, int(c), text(c, 20)))
	}
	for i := range 6 {
		put(byte(i + 1))
		mustSave(t, s, i+1)
	}
	for _, n := range []int{0, -1, 7, math.MinInt, math.MaxInt} {
		is(t, "Back to no save", s.Back(n), api.ErrArg)
	}
	tells(t, "refused", s, images[6])
	ok(t, "Back to the last", s.Back(6))
	tells(t, "the last", s, images[6])
	ok(t, "Back", s.Back(4))
	tells(t, "Back(4)", s, images[4])
	is(t, "Back behind it", s.Back(5), api.ErrArg)
	is(t, "Back behind it", s.Back(6), api.ErrArg)
	tells(t, "refused", s, images[4])
	ok(t, "the save stays", s.Back(4), s.Back(4))
	images = images[:5]
	put(100)
	mustSave(t, s, 7)
	put(101)
	is(t, "Back behind it", s.Back(5), api.ErrArg)
	ok(t, "Back to one that is newer", s.Back(7))
	tells(t, "Back(7)", s, images[5])
	ok(t, "Back to the old one", s.Back(4))
	tells(t, "Back(4) again", s, images[4])
	is(t, "Back behind it", s.Back(7), api.ErrArg)
	mustSave(t, s, 8)
	mustSave(t, s, 9)
	ok(t, "Back to the first", s.Back(1))
	tells(t, "Back(1)", s, images[1])
	is(t, "Back behind it", s.Back(2), api.ErrArg)
	is(t, "Back behind it", s.Back(9), api.ErrArg)
	ok(t, "Commit", s.Commit())
	tells(t, "committed", s, images[1])
	ok(t, "Begin", s.Begin())
	is(t, "Back to one of the last transaction", s.Back(1), api.ErrArg)
	mustSave(t, s, 1)
	ok(t, "Abort", s.Abort(), s.Begin())
	is(t, "Back to one of the last transaction", s.Back(1), api.ErrArg)
	mustSave(t, s, 1)
	ok(t, "Back", s.Back(1), s.Commit())
	tells(t, "at last", s, images[1])
}

// Promise 6.2: a save ahead of all Writes, and several in one place.
func TestSavesInOnePlace(t *testing.T) {
	d, s := newStore(t, logs, 2)
	ok(t, "Begin", s.Begin())
	mustSave(t, s, 1)
	mustSave(t, s, 2)
	ok(t, "Write", s.Write(0, 0, text(1, 10)))
	mustSave(t, s, 3)
	mustSave(t, s, 4)
	ok(t, "Write", s.Write(0, 5, text(2, 10)))
	want := blank(pages).with(0, 0, text(1, 10))
	ok(t, "Back", s.Back(4))
	tells(t, "Back(4)", s, want)
	ok(t, "Back", s.Back(3))
	tells(t, "Back(3)", s, want)
	is(t, "Back", s.Back(4), api.ErrArg)
	ok(t, "Back", s.Back(2))
	tells(t, "Back(2)", s, blank(pages))
	ok(t, "Back", s.Back(1))
	ok(t, "Write", s.Write(5, 0, text(3, 10)), s.Commit())
	d.Crash(nil)
	tells(t, "opened again", open(t, d, pages, logs, 1), blank(pages).with(5, 0, text(3, 10)))
}

// Promise 6.2: Abort undoes what overlaps in the right order, also what Back left, on as few frames as there are.
func TestAbortUndoesAll(t *testing.T) {
	for frames := 1; frames <= 3; frames++ {
		d, s := newStore(t, 300, frames)
		want := blank(pages).with(0, 3, text(50, 100)).with(1, 0, text(51, 480))
		ok(t, "a transaction", s.Begin(), s.Write(0, 3, text(50, 100)), s.Write(1, 0, text(51, 480)), s.Commit(), s.Begin())
		for i := range 9 {
			ok(t, "Write", s.Write(i%3, 10*i, text(byte(i), 60)))
			mustSave(t, s, i+1)
		}
		ok(t, "Back", s.Back(5))
		ok(t, "Write", s.Write(0, 0, text(99, 90)), s.Abort())
		tells(t, "aborted", s, want)
		d.Crash(nil)
		tells(t, "opened again", open(t, d, pages, 300, frames), want)
	}
}

// Promise 6.2: a committed transaction lasts when Commit is back, whatever waits is lost.
func TestCommitLasts(t *testing.T) {
	d, s := newStore(t, logs, 2)
	want := blank(pages)
	for i := range 40 {
		no, at := i%pages, (i*37)%440
		ok(t, "a transaction", s.Begin(), s.Write(no, at, text(byte(i+1), 40)), s.Commit())
		want = want.with(no, at, text(byte(i+1), 40))
		c := d.Copy()
		c.Crash(nil)
		tells(t, fmt.Sprint("behind Commit ", i), open(t, c, pages, logs, 1), want)
	}
}

// logRoom: how much of the log on the disk is free, and how much there is.
func logRoom(t testing.TB, d *disk.Disk) (room, size int) {
	t.Helper()
	l, e := wal.Open(d.Copy(), page.Need(pages), logs)
	ok(t, "wal.Open", e)
	return l.Room(), l.Size()
}

// Promise 6.2: a Checkpoint leaves all pages in the File and the log empty.
func TestCheckpoint(t *testing.T) {
	d, s := newStore(t, logs, 4)
	want := blank(pages)
	ok(t, "Begin", s.Begin())
	for i := range pages {
		ok(t, "Write", s.Write(i, i, text(byte(i+1), 20)))
		want = want.with(i, i, text(byte(i+1), 20))
	}
	ok(t, "Commit", s.Commit())
	if room, size := logRoom(t, d); room == size {
		t.Error("the log is empty behind Commit")
	}
	ok(t, "Checkpoint", s.Checkpoint())
	c := d.Copy()
	c.Crash(nil)
	if room, size := logRoom(t, c); room != size {
		t.Errorf("the log has room for %d of %d", room, size)
	}
	f, e := page.Open(c, 0, pages)
	ok(t, "page.Open", e)
	for no := range pages {
		if x, e := f.Read(no); e != api.OK || !bytes.Equal(x.Data, want[no]) {
			t.Errorf("the File's page %d = % x.., %d", no, x.Data[:8], e)
		}
	}
	writes := d.Writes()
	ok(t, "Checkpoint of nothing", s.Checkpoint())
	if d.Writes() != writes {
		t.Errorf("a Checkpoint of nothing wrote %d sectors", d.Writes()-writes)
	}
	tells(t, "behind", s, want)
}

// Promise 6.2: Evict leaves the page in the File, behind its record, and told as it is.
func TestEvict(t *testing.T) {
	d, s := newStore(t, logs, 4)
	ok(t, "a Write", s.Begin(), s.Write(3, 5, text(1, 50)), s.Evict(3), s.Evict(3), s.Evict(0))
	want := blank(pages).with(3, 5, text(1, 50))
	f, e := page.Open(d.Copy(), 0, pages)
	if e != api.OK {
		t.Fatal(e)
	}
	x, e := f.Read(3)
	if e != api.OK || !bytes.Equal(x.Data, want[3]) {
		t.Errorf("the File's page 3 = % x.., %d", x.Data[:8], e)
	}
	l, e := wal.Open(d.Copy(), page.Need(pages), logs)
	if e != api.OK || l.Next() <= x.LSN {
		t.Errorf("page 3 has LSN %d, the log's next is %d, %d", x.LSN, l.Next(), e)
	}
	tells(t, "evicted", s, want)
	ok(t, "Commit", s.Commit())
}

// Promise 6.2: what is handed in is neither kept nor changed, what is told is new memory.
func TestOwnMemory(t *testing.T) {
	_, s := newStore(t, logs, 2)
	room := text(9, 40)
	b := room[10:20]
	ok(t, "a Write", s.Begin(), s.Write(0, 0, b))
	if !bytes.Equal(room, text(9, 40)) {
		t.Error("Write changed what it was given")
	}
	want := blank(pages).with(0, 0, b)
	clear(room)
	tells(t, "own", s, want)
	x, _ := s.Read(0)
	clear(x[:cap(x)])
	tells(t, "told", s, want)
	mustSave(t, s, 1)
	y, _ := s.Read(0)
	ok(t, "Write", s.Write(0, 5, text(7, 30)))
	if !bytes.Equal(y, want[0]) {
		t.Error("a later Write changed what was told")
	}
	clear(y)
	ok(t, "Back", s.Back(1))
	tells(t, "gone back", s, want)
	ok(t, "Abort", s.Abort())
	tells(t, "aborted", s, blank(pages))
}

// fill writes ever smaller pieces until not even an empty one has room. Some saves stand between them.
func fill(t testing.TB, s *txn.Store, now image, size, every int) (image, []image) {
	t.Helper()
	var saved []image
	for i := 0; ; i++ {
		no := i % s.Pages()
		b := text(byte(i+1), size)
		switch e := s.Write(no, i%(api.Bytes-size+1), b); e {
		case api.OK:
			now = now.with(no, i%(api.Bytes-size+1), b)
		case api.ErrFull:
			if size == 0 {
				return now, saved
			}
			size /= 2
		default:
			t.Fatalf("Write = %d", e)
		}
		if every > 0 && i%every == 0 {
			mustSave(t, s, len(saved)+1)
			saved = append(saved, now)
		}
		if i > 100000 {
			t.Fatal("never full")
		}
	}
}

// Promise 6.2: ErrFull does nothing; a full transaction can go back from save to save, be aborted, and be committed.
func TestFull(t *testing.T) {
	for _, c := range []struct{ size, every int }{
		{480, 1}, {100, 1}, {30, 2}, {7, 1}, {0, 1}, {0, 3},
		{480, 0}, {60, 0}, {20, 0}, {7, 0}, {1, 0}, {0, 0}, {480, 9999}, {40, 9999}, {11, 9999}, {3, 9999}, {0, 9999}, {50, 17}, {5, 23},
	} {
		for end := range 3 {
			d, s := newStore(t, 64, 3)
			ok(t, "a transaction", s.Begin(), s.Write(2, 2, text(77, 40)), s.Commit(), s.Begin())
			was := blank(pages).with(2, 2, text(77, 40))
			now, saved := fill(t, s, was, c.size, c.every)
			tells(t, "full", s, now)
			switch end {
			case 0:
				ok(t, "Abort", s.Abort())
				now = was
			case 1:
				ok(t, "Commit", s.Commit())
			case 2:
				for i, want := range slices.Backward(saved) {
					ok(t, "Back", s.Back(i+1))
					tells(t, fmt.Sprint("Back ", i+1), s, want)
				}
				if len(saved) > 0 {
					now = saved[0]
				}
				ok(t, "Commit", s.Commit())
			}
			tells(t, "closed", s, now)
			ok(t, "one more", s.Begin(), s.Write(0, 0, text(5, 64)), s.Commit())
			now = now.with(0, 0, text(5, 64))
			d.Crash(nil)
			tells(t, "opened again", open(t, d, pages, 64, 2), now)
		}
	}
}

// Promise 6.2: a Write that would take more room than there is is refused at once; one that does not is still done.
func TestFullForLongOnly(t *testing.T) {
	_, s := newStore(t, 64, 3)
	ok(t, "Begin", s.Begin())
	now := blank(pages)
	for i := 0; ; i++ {
		e := s.Write(i%pages, 0, text(byte(i+1), 400))
		if e == api.ErrFull {
			break
		}
		ok(t, "Write", e)
		now = now.with(i%pages, 0, text(byte(i+1), 400))
	}
	ok(t, "a short one", s.Write(0, 470, text(1, 5)))
	tells(t, "full", s, now.with(0, 470, text(1, 5)))
	ok(t, "Abort", s.Abort())
	tells(t, "aborted", s, blank(pages))
}

// Promise 6.2: the log can be filled, however large it is.
func TestFullGreat(t *testing.T) {
	_, s := newStore(t, 2048, 64)
	for range 2 {
		ok(t, "Begin", s.Begin())
		n := 0
		for s.Write(n%pages, 0, text(byte(n), 480)) == api.OK {
			if n++; n*480 > 2048*64 {
				t.Fatal("more was written than the log has bytes")
			}
		}
		if n*480 < 2048*64/4 {
			t.Errorf("full behind %d bytes", n*480)
		}
		ok(t, "Abort", s.Abort())
		tells(t, "aborted", s, blank(pages))
	}
}

// spend writes within a 32nd of the log's bytes, as near to it as may be; nothing is told ErrFull.
func spend(t testing.TB, r *rand.Rand, s *txn.Store, log, most int, now image) image {
	t.Helper()
	left := log * api.Sector / 32
	saves := []image{}
	nos := []int{}
	for left >= 64 {
		size := r.Intn(min(left-64, most) + 1)
		at := r.Intn(api.Bytes - size + 1)
		no := r.Intn(pages)
		b := text(byte(r.Intn(256)), size)
		if r.Intn(2) == 0 {
			n, e := s.Save()
			ok(t, "Save", e)
			saves, nos = append(saves, now), append(nos, n)
		}
		if e := s.Write(no, at, b); e != api.OK {
			t.Fatalf("log %d, left %d: Write of %d bytes = %d", log, left, size, e)
		}
		now = now.with(no, at, b)
		left -= size + 64
		if len(saves) > 0 && r.Intn(3) == 0 {
			i := r.Intn(len(saves))
			ok(t, "Back", s.Back(nos[i]))
			now, saves, nos = saves[i], saves[:i+1], nos[:i+1]
		}
	}
	return now
}

// Promise 6.3: a transaction within a 32nd of the log's bytes is never told ErrFull, whatever came ahead of its Begin; Begin sees to it by itself.
func TestNeverFull(t *testing.T) {
	r := noise()
	for _, log := range []int{64, 65, 96, 257, 1024} {
		for _, most := range []int{0, 3, 64, 480} {
			d, s := newStore(t, log, 1+r.Intn(4))
			now := blank(pages)
			for round := range 20 {
				if round%3 == 0 {
					ok(t, "Begin", s.Begin())
					full, _ := fill(t, s, now, r.Intn(200), 1+r.Intn(9))
					if r.Intn(2) == 0 {
						ok(t, "Commit", s.Commit())
						now = full
					} else {
						ok(t, "Abort", s.Abort())
					}
				}
				if round%4 == 3 {
					ok(t, "Checkpoint", s.Checkpoint())
				}
				ok(t, "Begin", s.Begin())
				after := spend(t, r, s, log, most, now)
				if r.Intn(2) == 0 {
					ok(t, "Commit", s.Commit())
					now = after
				} else {
					ok(t, "Abort", s.Abort())
				}
				tells(t, "spent", s, now)
			}
			d.Crash(nil)
			tells(t, "opened again", open(t, d, pages, log, 2), now)
		}
	}
}

// Promise 6.3: many small transactions behind each other, with no Checkpoint between them, empty ones too.
func TestManyTransactions(t *testing.T) {
	d, s := newStore(t, 64, 2)
	now := blank(pages)
	for i := range 500 {
		ok(t, "empty", s.Begin(), s.Commit(), s.Begin(), s.Abort())
		ok(t, "Write", s.Begin(), s.Write(i%pages, i%400, text(byte(i), 64)))
		if i%3 == 0 {
			ok(t, "Abort", s.Abort())
			continue
		}
		ok(t, "Commit", s.Commit())
		now = now.with(i%pages, i%400, text(byte(i), 64))
	}
	tells(t, "many", s, now)
	d.Crash(nil)
	tells(t, "opened again", open(t, d, pages, 64, 2), now)
}

// Promise 6.3: saves and Backs that undo nothing take no room.
func TestSavesTakeNoRoom(t *testing.T) {
	_, s := newStore(t, 64, 2)
	ok(t, "Begin", s.Begin())
	for i := range 2000 {
		mustSave(t, s, i+1)
		ok(t, "Back", s.Back(i+1), s.Back(i+1))
	}
	ok(t, "Write", s.Write(0, 0, text(1, 64)))
	for i := range 2000 {
		mustSave(t, s, 2001+i)
	}
	ok(t, "Write", s.Write(0, 0, text(2, 64)), s.Commit())
}

func undone(t testing.TB, s *txn.Store, want int) {
	t.Helper()
	if got := s.Undone(); got != want {
		t.Errorf("Undone() = %d, want %d", got, want)
	}
}

// Promise 6.3: Undone counts the Writes that Abort and Back undid, each once, empty ones too, and no others.
func TestUndone(t *testing.T) {
	d, s := newStore(t, 200, 3)
	ok(t, "three", s.Begin(), s.Write(0, 0, text(1, 9)), s.Write(1, 0, text(1, 9)), s.Write(1, 0, text(1, 9)), s.Commit())
	undone(t, s, 0)
	ok(t, "three", s.Begin(), s.Write(0, 0, text(2, 9)))
	mustSave(t, s, 1)
	ok(t, "two", s.Write(0, 0, nil), s.Write(2, 0, text(2, 9)))
	undone(t, s, 0)
	is(t, "Back", s.Back(2), api.ErrArg)
	undone(t, s, 0)
	ok(t, "Back", s.Back(1))
	undone(t, s, 2)
	ok(t, "Back", s.Back(1))
	undone(t, s, 2)
	ok(t, "Write", s.Write(2, 0, text(2, 9)))
	ok(t, "Abort", s.Abort())
	undone(t, s, 4)
	ok(t, "empty", s.Begin(), s.Abort())
	undone(t, s, 4)
	ok(t, "Checkpoint", s.Checkpoint())
	undone(t, s, 4)
	d.Crash(nil)
	undone(t, open(t, d, pages, 200, 1), 0)
}

// Promise 6.3: Undone counts what Open undid: the Writes that were never committed, not those that were undone ahead of the crash.
func TestUndoneByOpen(t *testing.T) {
	d, s := newStore(t, 200, 3)
	ok(t, "committed", s.Begin(), s.Write(0, 0, text(1, 9)), s.Commit())
	ok(t, "aborted", s.Begin(), s.Write(0, 0, text(2, 9)), s.Write(1, 0, text(2, 9)), s.Abort())
	ok(t, "gone back", s.Begin(), s.Write(0, 0, text(3, 9)))
	mustSave(t, s, 1)
	ok(t, "gone back", s.Write(0, 0, text(4, 9)), s.Back(1), s.Write(1, 0, text(5, 9)), s.Write(2, 0, nil), s.Write(2, 0, text(6, 9)))
	undone(t, s, 3)
	ok(t, "Evict", s.Evict(2))
	d.Crash(nil)
	s = open(t, d, pages, 200, 3)
	undone(t, s, 4)
	tells(t, "opened again", s, blank(pages).with(0, 0, text(1, 9)))
	ok(t, "one more", s.Begin(), s.Write(0, 0, text(7, 9)), s.Abort())
	undone(t, s, 5)
	d.Crash(nil)
	undone(t, open(t, d, pages, 200, 3), 0)
}

// twin: a Store, and what it should tell.
type twin struct {
	t      testing.TB
	r      *rand.Rand
	disk   *disk.Disk
	store  *txn.Store
	log    int
	now    image
	begun  image
	places []int // for each save that stands its number
	images []image
	undos  []int // how many Writes stood at each save
	stand  int
	last   int
	undone int
	loose  int // Writes since the last Commit: Open may find that they stand, as the mark of an Abort or a Back may be lost
}

func (w *twin) step() {
	w.t.Helper()
	switch k := w.r.Intn(20); {
	case k < 9:
		w.write()
	case k < 11:
		no := w.r.Intn(pages)
		is(w.t, "Evict", w.store.Evict(no), api.OK)
	case k < 13:
		w.save()
	case k < 15:
		w.back()
	case k < 16:
		w.end(w.store.Commit(), false)
	case k < 17:
		w.end(w.store.Abort(), true)
	case k < 18:
		is(w.t, "Checkpoint", w.store.Checkpoint(), w.state(w.store.Busy()))
	default:
		busy := w.store.Busy()
		is(w.t, "Begin", w.store.Begin(), w.state(busy))
		if !busy {
			w.begun = w.now
		}
	}
}

// state: ErrState, if it should not be as it is.
func (w *twin) state(wrong bool) api.Errno {
	if wrong {
		return api.ErrState
	}
	return api.OK
}

func (w *twin) write() {
	w.t.Helper()
	no, size := w.r.Intn(pages), w.r.Intn(40)
	if w.r.Intn(6) == 0 {
		size = w.r.Intn(api.Bytes + 1)
	}
	at := w.r.Intn(api.Bytes - size + 1)
	b := text(byte(w.r.Intn(256)), size)
	busy := w.store.Busy()
	e := w.store.Write(no, at, b)
	if !busy || e == api.ErrFull {
		is(w.t, "Write", e, map[bool]api.Errno{false: api.ErrState, true: api.ErrFull}[busy])
		return
	}
	ok(w.t, "Write", e)
	w.now = w.now.with(no, at, b)
	w.stand++
	w.loose++
}

func (w *twin) save() {
	w.t.Helper()
	busy := w.store.Busy()
	n, e := w.store.Save()
	is(w.t, "Save", e, w.state(!busy))
	if !busy {
		return
	}
	if w.last++; n != w.last {
		w.t.Fatalf("Save() = %d, want %d", n, w.last)
	}
	w.places, w.images, w.undos = append(w.places, n), append(w.images, w.now), append(w.undos, w.stand)
}

func (w *twin) back() {
	w.t.Helper()
	busy := w.store.Busy()
	n := w.r.Intn(w.last+2) + w.r.Intn(2)
	e := w.store.Back(n)
	i := slices.Index(w.places, n)
	switch {
	case !busy:
		is(w.t, "Back", e, api.ErrState)
	case i < 0:
		is(w.t, "Back", e, api.ErrArg)
	default:
		ok(w.t, "Back", e)
		w.now, w.undone, w.stand = w.images[i], w.undone+w.stand-w.undos[i], w.undos[i]
		w.places, w.images, w.undos = w.places[:i+1], w.images[:i+1], w.undos[:i+1]
	}
}

func (w *twin) end(e api.Errno, undo bool) {
	w.t.Helper()
	if w.begun == nil {
		is(w.t, "Commit, Abort", e, api.ErrState)
		return
	}
	ok(w.t, "Commit, Abort", e)
	if undo {
		w.now, w.undone = w.begun, w.undone+w.stand
	} else {
		w.loose = 0
	}
	w.closed()
}

func (w *twin) closed() {
	w.begun, w.places, w.images, w.undos, w.stand, w.last = nil, nil, nil, nil, 0, 0
}

func (w *twin) reopen() {
	w.t.Helper()
	w.disk.Crash(someOf(w.r, w.disk.Waiting()))
	w.store = open(w.t, w.disk, pages, w.log, 1+w.r.Intn(8))
	if w.begun != nil {
		w.now = w.begun
	}
	if w.store.Undone() > w.loose {
		w.t.Errorf("Open undid %d Writes of %d", w.store.Undone(), w.loose)
	}
	w.closed()
	w.undone, w.loose = w.store.Undone(), 0
}

// someOf: some of the first n numbers, now and then all or none of them.
func someOf(r *rand.Rand, n int) []int {
	var l []int
	part := r.Intn(5)
	for i := range n {
		if r.Intn(4) < part {
			l = append(l, i)
		}
	}
	return l
}

// Promises 6.1 to 6.4: whatever is called, in whatever order, with crashes between: the Store tells what a plain list of pages would.
func TestAgainstModel(t *testing.T) {
	r := noise()
	for round := range 60 {
		log := 64 + r.Intn(200)
		d, s := newStore(t, log, 1+r.Intn(8))
		w := &twin{t: t, r: r, disk: d, store: s, log: log, now: blank(pages)}
		for range 300 {
			w.step()
			if w.store.Busy() != (w.begun != nil) {
				t.Fatalf("Busy() = %v", w.store.Busy())
			}
			undone(t, w.store, w.undone)
			if r.Intn(5) == 0 {
				tells(t, fmt.Sprint("round ", round), w.store, w.now)
			}
			if r.Intn(60) == 0 {
				w.reopen()
				tells(t, fmt.Sprint("reopened in round ", round), w.store, w.now)
			}
		}
	}
}

// Promise W10: how many frames there are, and what is evicted, changes no answer.
func TestFramesUnseen(t *testing.T) {
	var want []string
	for i, frames := range []int{64, 6, 3, 2, 1} {
		r, evicts := noise(), rand.New(rand.NewSource(int64(i)))
		_, s := newStore(t, 100, frames)
		var got []string
		for range 1500 {
			got = append(got, anyCall(r, s))
			if i > 0 && evicts.Intn(3) == 0 {
				ok(t, "Evict", s.Evict(evicts.Intn(pages)))
			}
		}
		if i == 0 {
			want = got
			continue
		}
		for k := range got {
			if got[k] != want[k] {
				t.Fatalf("%d frames: call %d answered %s, with 64 frames %s", frames, k, got[k], want[k])
			}
		}
	}
}

func anyCall(r *rand.Rand, s *txn.Store) string {
	switch k := r.Intn(16); {
	case k < 6:
		no, at, size := r.Intn(pages+1), r.Intn(api.Bytes), r.Intn(90)
		return fmt.Sprint("Write ", s.Write(no, at, text(byte(r.Intn(256)), size)))
	case k < 9:
		b, e := s.Read(r.Intn(pages + 1))
		return fmt.Sprintf("Read %x %d", b, e)
	case k < 10:
		n, e := s.Save()
		return fmt.Sprint("Save ", n, e)
	case k < 11:
		return fmt.Sprint("Back ", s.Back(r.Intn(5)))
	case k < 12:
		return fmt.Sprint("Commit ", s.Commit())
	case k < 13:
		return fmt.Sprint("Abort ", s.Abort())
	case k < 14:
		return fmt.Sprint("Checkpoint ", s.Checkpoint())
	}
	return fmt.Sprint("Begin ", s.Begin(), s.Busy(), s.Undone())
}

// deed: what a run did until the disk died.
type deed struct {
	state image // as the last Commit left it that came back OK
	next  image // as the one that did not would have
	dead  bool
	calls int
}

// run does transactions of all sorts, until the disk dies or they are done.
func run(s *txn.Store, seed int64) deed {
	r := rand.New(rand.NewSource(seed))
	w := deed{state: blank(pages)}
	for k := range 9 {
		now, e := runOne(r, s, w.state, k)
		if e == api.OK {
			if k%4 == 2 {
				e = s.Abort()
				now = w.state
			} else if e = s.Commit(); e != api.OK {
				w.next = now
			}
		}
		if e == api.OK && k == 5 {
			w.state = now
			e = s.Checkpoint()
		}
		if e != api.OK {
			w.dead = true
			return w
		}
		w.state = now
	}
	return w
}

// runOne: the Writes of a transaction, with saves and evictions between them.
func runOne(r *rand.Rand, s *txn.Store, now image, k int) (image, api.Errno) {
	if e := s.Begin(); e != api.OK {
		return nil, e
	}
	var at image
	for i := range 5 {
		no, from, b := r.Intn(pages), r.Intn(440), text(byte(16*k+i+1), r.Intn(40))
		if e := s.Write(no, from, b); e != api.OK {
			return nil, e
		}
		now = now.with(no, from, b)
		if i == 1 {
			if _, e := s.Save(); e != api.OK {
				return nil, e
			}
			at = now
		}
		if r.Intn(3) == 0 {
			if e := s.Evict(r.Intn(pages)); e != api.OK {
				return nil, e
			}
		}
		if i == 3 && k%3 == 0 {
			if e := s.Back(1); e != api.OK {
				return nil, e
			}
			now = at
		}
	}
	return now, api.OK
}

// steps: how many Writes and Flushes of the disk all of it takes.
func steps(t testing.TB, log, frames int, seed int64) int {
	t.Helper()
	for n := 500; ; n *= 2 {
		d, s := newStore(t, log, frames)
		d.Fuse(n)
		if w := run(s, seed); !w.dead {
			break
		}
		if n > 1<<20 {
			t.Fatal("it takes too long")
		}
	}
	least, most := 0, 1<<20
	for least < most {
		n := (least + most) / 2
		d, s := newStore(t, log, frames)
		d.Fuse(n)
		if run(s, seed); d.Dead() {
			least = n + 1
		} else {
			most = n
		}
	}
	return least
}

// Promise 6.4, W2: the disk dies at each of its steps, whatever waited is kept or lost; what was committed is there, what was under way whole or not at all.
func TestCrashAtEachStep(t *testing.T) {
	for i, c := range []struct{ log, frames int }{{64, 1}, {64, 3}, {90, 2}, {200, 64}} {
		r := noise()
		seed := int64(i)
		for n := range steps(t, c.log, c.frames, seed) + 1 {
			d, s := newStore(t, c.log, c.frames)
			d.Fuse(n)
			w := run(s, seed)
			for range 4 {
				x := d.Copy()
				x.Crash(someOf(r, x.Waiting()))
				s := open(t, x, pages, c.log, 1+r.Intn(4))
				checkDeed(t, fmt.Sprintf("log %d, %d frames, step %d", c.log, c.frames, n), s, w)
			}
		}
	}
}

func checkDeed(t testing.TB, what string, s *txn.Store, w deed) {
	t.Helper()
	if w.next != nil && imageOf(t, s).equal(w.next) {
		return
	}
	tells(t, what, s, w.state)
}

// Promise 6.4, W2: Open itself dies, at each of its steps, again and again; the answer is always the same one.
func TestCrashWithinOpen(t *testing.T) {
	r := noise()
	for seed := range int64(6) {
		log := 70 + 10*int(seed)
		total := steps(t, log, 2, seed)
		for range 12 {
			d, s := newStore(t, log, 2)
			d.Fuse(r.Intn(total))
			w := run(s, seed)
			d.Crash(someOf(r, d.Waiting()))
			first := open(t, d.Copy(), pages, log, 3)
			checkDeed(t, "the first", first, w)
			want := imageOf(t, first)
			openDying(t, r, d, log, want)
		}
	}
}

// openDying lets Open die ever later, on what the one ahead left, until it comes through.
func openDying(t testing.TB, r *rand.Rand, d *disk.Disk, log int, want image) {
	t.Helper()
	for n := 0; ; n++ {
		x := d.Copy()
		x.Fuse(n)
		s, e := txn.Open(x, pages, log, 1+r.Intn(3))
		if e == api.OK && !x.Dead() {
			tells(t, "at last", s, want)
			return
		}
		if e != api.OK && (e != api.ErrDead || s != nil) {
			t.Fatalf("Open that died = %v, %d", s, e)
		}
		x.Crash(someOf(r, x.Waiting()))
		tells(t, fmt.Sprint("Open died at ", n), open(t, x.Copy(), pages, log, 1+r.Intn(3)), want)
		if r.Intn(3) == 0 {
			d = x
		}
	}
}

// Promise 6.4: the Store goes on behind each crash, for many lives; each of them begins with what the last one left.
func TestManyLives(t *testing.T) {
	r := noise()
	const log = 72
	d := newDisk(t, txn.Need(pages, log))
	want := []image{blank(pages)}
	for life := range 400 {
		d.Fuse(r.Intn(120))
		s, e := txn.Open(d, pages, log, 1+r.Intn(4))
		if e == api.OK {
			want = live(t, r, s, want)
		}
		d.Crash(someOf(r, d.Waiting()))
		if life%3 == 0 {
			got := imageOf(t, open(t, d.Copy(), pages, log, 2))
			if !slices.ContainsFunc(want, got.equal) {
				t.Fatalf("life %d: what is told was never committed", life)
			}
			want = []image{got}
		}
	}
}

// live does small transactions until the disk dies; the images of which one must be there.
func live(t testing.TB, r *rand.Rand, s *txn.Store, want []image) []image {
	t.Helper()
	var now image
	for no := range pages {
		b, e := s.Read(no)
		if e != api.OK {
			return want
		}
		now = append(now, b)
	}
	if !slices.ContainsFunc(want, now.equal) {
		t.Fatal("what is told was never committed")
	}
	for {
		next := now
		if s.Begin() != api.OK {
			return []image{now}
		}
		for range 1 + r.Intn(3) {
			no, at, b := r.Intn(pages), r.Intn(450), text(byte(r.Intn(256)), r.Intn(30))
			if s.Write(no, at, b) != api.OK {
				return []image{now}
			}
			next = next.with(no, at, b)
			if r.Intn(2) == 0 && s.Evict(r.Intn(pages)) != api.OK {
				return []image{now}
			}
		}
		if r.Intn(4) == 0 {
			if s.Abort() != api.OK {
				return []image{now}
			}
			continue
		}
		if s.Commit() != api.OK {
			return []image{now, next}
		}
		now = next
	}
}

// everyCall calls all there is, and answers the errors.
func everyCall(s *txn.Store) []api.Errno {
	_, read := s.Read(0)
	_, save := s.Save()
	l := []api.Errno{read, save, s.Begin(), s.Write(1, 3, text(5, 50)), s.Back(1), s.Evict(0), s.Commit(), s.Abort(), s.Checkpoint()}
	s.Busy()
	s.Undone()
	s.Pages()
	return l
}

// Promise 6.5: when the disk is dead, each call ends with an error of its own; behind it the Store is of no use, also when the disk lives again: nothing of it disturbs what is there.
func TestOfNoUse(t *testing.T) {
	r := noise()
	for n := range steps(t, 64, 2, 3) {
		d, s := newStore(t, 64, 2)
		d.Fuse(n)
		w := run(s, 3)
		if !w.dead {
			continue
		}
		for range 3 {
			everyCall(s)
		}
		d.Crash(someOf(r, d.Waiting()))
		for range 3 {
			for i, e := range everyCall(s) {
				if e == api.OK {
					t.Errorf("step %d: call %d on what is of no use is OK", n, i)
				}
			}
		}
		checkDeed(t, fmt.Sprint("step ", n), open(t, d, pages, 64, 2), w)
	}
}

// Promise 6.5: a disk that is dead is told at once where it is needed.
func TestDead(t *testing.T) {
	d, s := newStore(t, logs, 1)
	ok(t, "Begin", s.Begin())
	d.Fuse(0)
	is(t, "Write with a wrong page", s.Write(-1, 0, nil), api.ErrArg)
	is(t, "Write", s.Write(0, 0, text(1, 5)), api.ErrDead)
	is(t, "Commit", s.Commit(), api.ErrDead)
	d, s = newStore(t, logs, 1)
	ok(t, "Begin", s.Begin())
	d.Fuse(0)
	is(t, "Commit of nothing", s.Commit(), api.ErrDead)
	d, s = newStore(t, logs, 1)
	d.Fuse(0)
	if b, e := s.Read(0); b != nil || e != api.ErrDead {
		t.Errorf("Read = %v, %d", b, e)
	}
	if b, e := s.Read(pages); b != nil || e != api.ErrArg {
		t.Errorf("Read of no page = %v, %d", b, e)
	}
	is(t, "Checkpoint", s.Checkpoint(), api.ErrDead)
}

// withRecords: a disk whose log has just these records, and whose pages are noughts.
func withRecords(t testing.TB, recs [][]byte) *disk.Disk {
	t.Helper()
	d := newDisk(t, txn.Need(pages, logs))
	l, e := wal.Open(d, page.Need(pages), logs)
	if e != api.OK {
		t.Fatal(e)
	}
	for _, rec := range recs {
		if _, e := l.Append(rec); e != api.OK {
			break
		}
	}
	ok(t, "Flush", l.Flush())
	return d
}

// recordsOf: the records that some transactions leave.
func recordsOf(t testing.TB) [][]byte {
	t.Helper()
	d, s := newStore(t, logs, 2)
	ok(t, "committed", s.Begin(), s.Write(0, 0, text(1, 9)), s.Write(pages-1, 470, text(1, 10)), s.Commit())
	ok(t, "begun", s.Begin(), s.Write(1, 200, text(1, 9)))
	mustSave(t, s, 1)
	ok(t, "undone", s.Write(1, 205, text(2, 9)), s.Back(1), s.Write(3, 3, text(4, 7)), s.Evict(3))
	l, e := wal.Open(d.Copy(), page.Need(pages), logs)
	if e != api.OK {
		t.Fatal(e)
	}
	var recs [][]byte
	for _, rec := range l.All() {
		recs = append(recs, rec)
	}
	if len(recs) < 6 {
		t.Fatalf("the log has %d records", len(recs))
	}
	return recs
}

// openHostile: an error, or a Store that works.
func openHostile(t testing.TB, what string, d *disk.Disk) api.Errno {
	t.Helper()
	s, e := txn.Open(d, pages, logs, 2)
	if e != api.OK {
		if s != nil || e != api.ErrForm {
			t.Fatalf("%s: Open = %v, %d", what, s, e)
		}
		return e
	}
	was := imageOf(t, s)
	ok(t, what, s.Begin(), s.Write(0, 0, text(3, 100)), s.Abort())
	tells(t, what, s, was)
	ok(t, what, s.Begin(), s.Write(2, 0, text(3, 64)), s.Commit())
	d.Crash(nil)
	tells(t, what, open(t, d, pages, logs, 1), was.with(2, 0, text(3, 64)))
	return e
}

// Promise 6.5, W9: records that no Store wrote are answered by an error, or by what they mean.
func TestHostileRecords(t *testing.T) {
	recs := recordsOf(t)
	if e := openHostile(t, "as they are", withRecords(t, recs)); e != api.OK {
		t.Fatalf("Open = %d", e)
	}
	for i, l := range [][][]byte{
		{nil}, {nil, recs[0]}, {{200}}, {{200}, recs[0], recs[1]}, {recs[0], {200}, recs[1]},
		{append(bytes.Clone(recs[0]), 1), recs[1]}, {recs[0][:2], recs[1]}, {recs[0][:1], recs[1]},
	} {
		if e := openHostile(t, "one that is none", withRecords(t, l)); e != api.ErrForm {
			t.Errorf("case %d: Open = %d", i, e)
		}
	}
	r := noise()
	refused := 0
	for i := range 3000 {
		l := make([][]byte, len(recs))
		for k := range recs {
			l[k] = bytes.Clone(recs[k])
		}
		k := r.Intn(len(l))
		switch r.Intn(6) {
		case 0:
			l[k] = text(byte(r.Intn(256)), r.Intn(30))
		case 1:
			l[k] = l[k][:r.Intn(len(l[k])+1)]
		case 2:
			l[k] = append(l[k], text(byte(r.Intn(256)), 1+r.Intn(1000))...)
		case 3:
			l[k][r.Intn(min(4, len(l[k])))] = byte(r.Intn(256))
		case 4:
			l = slices.Delete(l, k, k+1)
		case 5:
			l[k] = l[r.Intn(len(l))]
		}
		if openHostile(t, fmt.Sprint("case ", i), withRecords(t, l)) != api.OK {
			refused++
		}
	}
	if refused == 0 {
		t.Error("none was refused")
	}
}

// Promise 6.5, W9: a log whose records are noise.
func TestHostileNoise(t *testing.T) {
	r := noise()
	for first := range 256 {
		for range 6 {
			rec := append([]byte{byte(first)}, text(byte(r.Intn(256)), r.Intn(60))...)
			openHostile(t, fmt.Sprintf("% x", rec), withRecords(t, [][]byte{rec}))
		}
		openHostile(t, fmt.Sprint("just ", first), withRecords(t, [][]byte{{byte(first)}}))
	}
	if e := openHostile(t, "an empty record", withRecords(t, [][]byte{nil})); e != api.ErrForm {
		t.Errorf("Open = %d", e)
	}
}

// Promise 6.5, W9: sectors that anyone wrote to.
func TestHostileSectors(t *testing.T) {
	r := noise()
	for i := range 300 {
		d, s := newStore(t, logs, 2)
		ok(t, "committed", s.Begin(), s.Write(0, 0, text(1, 90)), s.Commit(), s.Begin(), s.Write(1, 1, text(2, 90)), s.Evict(1))
		for range 1 + r.Intn(20) {
			b := text(byte(r.Intn(256)), api.Sector)
			if r.Intn(2) == 0 {
				b, _ = d.Read(r.Intn(d.Sectors()))
			}
			ok(t, "Write", d.Write(r.Intn(d.Sectors()), b))
		}
		openHostile(t, fmt.Sprint("case ", i), d)
	}
}

// The document's example.
func Example() {
	d, _ := disk.New(txn.Need(6, 64))
	s, _ := txn.Open(d, 6, 64, 2)
	s.Begin()
	s.Write(0, 0, []byte("a"))
	fmt.Println(s.Abort())
	b, e := s.Read(0)
	fmt.Println(bytes.Equal(b, make([]byte, api.Bytes)), e)
	// Output:
	// error 0
	// true error 0
}
