package page_test

import (
	"bytes"
	"math"
	"math/rand"
	"slices"
	"testing"

	"terrier/api"
	"terrier/disk"
	"terrier/pack"
	"terrier/page"
)

// noise is the same at each run, so that a failure comes again.
func noise() *rand.Rand { return rand.New(rand.NewSource(1)) }

// data: bytes that hang on c and on where they stand, so that a shift or a mixture would show.
func data(c byte) []byte {
	b := make([]byte, api.Bytes)
	for i := range b {
		b[i] = c + byte(i%251)*byte(i/64+1)
	}
	return b
}

func blank() []byte { return make([]byte, api.Bytes) }

func pageOf(no int, lsn uint64, c byte) page.Page {
	return page.Page{No: no, LSN: lsn, Data: data(c)}
}

func same(a, b page.Page) bool {
	return a.No == b.No && a.LSN == b.LSN && bytes.Equal(a.Data, b.Data)
}

func newDisk(t testing.TB, sectors int) *disk.Disk {
	t.Helper()
	d, e := disk.New(sectors)
	if e != api.OK {
		t.Fatalf("New(%d) = %d", sectors, e)
	}
	return d
}

func open(t testing.TB, d *disk.Disk, at, pages int) *page.File {
	t.Helper()
	f, e := page.Open(d, at, pages)
	if e != api.OK || f == nil {
		t.Fatalf("Open(%d, %d) = %v, %d", at, pages, f, e)
	}
	return f
}

func write(t testing.TB, f *page.File, l ...page.Page) {
	t.Helper()
	if e := f.Write(l); e != api.OK {
		t.Fatalf("Write = %d", e)
	}
}

func holds(t testing.TB, f *page.File, want page.Page) {
	t.Helper()
	if p, e := f.Read(want.No); e != api.OK || !same(p, want) {
		t.Errorf("Read(%d) = %d, %d, % x.., %d, want LSN %d", want.No, p.No, p.LSN, p.Data[:min(4, len(p.Data))], e, want.LSN)
	}
}

// sectorsOf: all that the disk holds now.
func sectorsOf(t testing.TB, d *disk.Disk) [][]byte {
	t.Helper()
	var l [][]byte
	for i := range d.Sectors() {
		b, e := d.Read(i)
		if e != api.OK {
			t.Fatalf("sector %d: %d", i, e)
		}
		l = append(l, b)
	}
	return l
}

// Promise 3.1: how many sectors a File has.
func TestNeed(t *testing.T) {
	for _, c := range [][2]int{
		{math.MinInt, 88}, {-5, 88}, {-1, 88}, {0, 88}, {1, 88}, {2, 96}, {3, 104}, {8, 144}, {4095, 32840}, {4096, 32848}, {4097, 32856},
	} {
		if got := page.Need(c[0]); got != c[1] {
			t.Errorf("Need(%d) = %d, want %d", c[0], got, c[1])
		}
	}
}

// Promise 3.1: what Open refuses, on a disk that lives and on a dead one.
func TestOpenRefuses(t *testing.T) {
	for _, dead := range []bool{false, true} {
		d := newDisk(t, 200)
		if dead {
			d.Fuse(0)
		}
		for _, c := range [][2]int{
			{0, 0}, {0, -1}, {0, math.MinInt}, {0, 16}, {0, 4096}, {0, 4097}, {0, math.MaxInt}, {0, 1 << 61},
			{-1, 1}, {-1, 16}, {math.MinInt, 1}, {-96, 4097}, {113, 1}, {97, 3}, {199, 1}, {200, 1}, {math.MaxInt, 1}, {math.MaxInt - 87, 1}, {1 << 62, 3},
		} {
			if f, e := page.Open(d, c[0], c[1]); f != nil || e != api.ErrArg {
				t.Errorf("Open(%d, %d) = %v, %d", c[0], c[1], f, e)
			}
		}
		if d.Writes() != 0 {
			t.Error("an Open that was refused wrote")
		}
	}
	if f, e := page.Open(nil, 0, 3); f != nil || e != api.ErrArg {
		t.Errorf("Open(nil) = %v, %d", f, e)
	}
	for _, c := range [][2]int{{87, 1}, {8, 1}, {65536, 4097}, {65536, 8000}} {
		if f, e := page.Open(newDisk(t, c[0]), 0, c[1]); f != nil || e != api.ErrArg {
			t.Errorf("Open(0, %d) on %d sectors = %v, %d", c[1], c[0], f, e)
		}
	}
}

// Promise 3.1: Files that just fit; a fresh one is noughts all over.
func TestOpenFits(t *testing.T) {
	for _, c := range [][3]int{{200, 0, 15}, {200, 112, 1}, {200, 96, 3}, {88, 0, 1}, {32848, 0, 4096}, {65536, 32688, 4096}} {
		d := newDisk(t, c[0])
		f := open(t, d, c[1], c[2])
		if f.Pages() != c[2] {
			t.Errorf("Pages() = %d, want %d", f.Pages(), c[2])
		}
		for no := range c[2] {
			holds(t, f, page.Page{No: no, Data: blank()})
		}
		last := pageOf(c[2]-1, math.MaxUint64, 9)
		write(t, f, last)
		holds(t, open(t, d, c[1], c[2]), last)
	}
}

// Promises 3.1, 3.2: the disk's errors.
func TestDeadDisk(t *testing.T) {
	d := newDisk(t, 200)
	f := open(t, d, 8, 5)
	write(t, f, pageOf(1, 4, 1))
	d.Fuse(0)
	if g, e := page.Open(d, 8, 5); g != nil || e != api.ErrDead {
		t.Errorf("Open = %v, %d", g, e)
	}
	if p, e := f.Read(1); e != api.ErrDead || !same(p, page.Page{}) {
		t.Errorf("Read = %v, %d", p, e)
	}
	if e := f.Write([]page.Page{pageOf(1, 5, 2)}); e != api.ErrDead {
		t.Errorf("Write = %d", e)
	}
	if _, e := f.Read(5); e != api.ErrArg {
		t.Errorf("Read(5) = %d", e)
	}
	if e := f.Write([]page.Page{pageOf(5, 5, 2)}); e != api.ErrArg {
		t.Errorf("Write(5) = %d", e)
	}
	if e := f.Write(make([]page.Page, 9)); e != api.ErrMany {
		t.Errorf("Write of nine = %d", e)
	}
	if f.Pages() != 5 {
		t.Errorf("Pages() = %d", f.Pages())
	}
}

// Promise 3.2: what was written is told, there and nowhere else, also behind a crash that keeps nothing.
func TestReadWrite(t *testing.T) {
	d := newDisk(t, 300)
	f := open(t, d, 5, 12)
	want := make([]page.Page, 12)
	for no := range want {
		want[no] = page.Page{No: no, Data: blank()}
	}
	for i, l := range [][]page.Page{
		{pageOf(3, 1, 1)},
		{pageOf(11, math.MaxUint64, 2), pageOf(0, 1<<63, 3)},
		{pageOf(7, 128, 4), pageOf(6, 127, 5), pageOf(5, 0, 6), pageOf(4, 1, 7), pageOf(3, 2, 8), pageOf(2, 3, 9), pageOf(1, 4, 10), pageOf(0, 5, 11)},
		{pageOf(3, 1, 1)},
		{{No: 0, LSN: 0, Data: blank()}, {No: 1, LSN: 7, Data: blank()}, {No: 2, Data: bytes.Repeat([]byte{255}, api.Bytes)}},
		nil,
		{},
		{pageOf(3, 1, 1)},
	} {
		writes := d.Writes()
		write(t, f, l...)
		if len(l) == 0 && d.Writes() != writes {
			t.Error("a Write of nothing wrote")
		}
		for _, p := range l {
			want[p.No] = p
		}
		d.Crash(nil)
		again := open(t, d, 5, 12)
		for _, p := range want {
			holds(t, f, p)
			holds(t, again, p)
		}
		if t.Failed() {
			t.Fatalf("behind Write %d", i)
		}
		if i%2 == 1 {
			f = again
		}
	}
}

// Promise 3.2: pages and lists that are refused, the first fault that is named first; they change nothing.
func TestWriteRefuses(t *testing.T) {
	d := newDisk(t, 200)
	f := open(t, d, 0, 12)
	write(t, f, pageOf(0, 1, 1), pageOf(1, 2, 2))
	was, writes := sectorsOf(t, d), d.Writes()
	nine := make([]page.Page, 9)
	for i := range nine {
		nine[i] = pageOf(i, 3, 3)
	}
	wrong := slices.Clone(nine)
	wrong[0].No = -1
	for i, c := range []struct {
		l    []page.Page
		want api.Errno
	}{
		{nine, api.ErrMany}, {wrong, api.ErrMany}, {make([]page.Page, 9), api.ErrMany}, {make([]page.Page, 100), api.ErrMany},
		{[]page.Page{pageOf(12, 3, 3)}, api.ErrArg}, {[]page.Page{pageOf(-1, 3, 3)}, api.ErrArg},
		{[]page.Page{pageOf(math.MaxInt, 3, 3)}, api.ErrArg}, {[]page.Page{pageOf(math.MinInt, 3, 3)}, api.ErrArg},
		{[]page.Page{pageOf(0, 3, 3), pageOf(1, 3, 3), pageOf(12, 3, 3)}, api.ErrArg},
		{[]page.Page{pageOf(0, 3, 3), pageOf(1, 3, 3), pageOf(0, 3, 3)}, api.ErrArg},
		{[]page.Page{pageOf(1, 3, 3), pageOf(1, 4, 4)}, api.ErrArg},
		{[]page.Page{{No: 1}}, api.ErrArg}, {[]page.Page{{No: 1, Data: data(1)[:479]}}, api.ErrArg},
		{[]page.Page{{No: 1, Data: make([]byte, 481)}}, api.ErrArg}, {[]page.Page{pageOf(0, 3, 3), {No: 1, Data: []byte{}}}, api.ErrArg},
		{make([]page.Page, 8), api.ErrArg},
	} {
		if e := f.Write(c.l); e != c.want {
			t.Errorf("%d: Write = %d, want %d", i, e, c.want)
		}
	}
	for _, no := range []int{-1, 12, 13, math.MaxInt, math.MinInt} {
		if p, e := f.Read(no); e != api.ErrArg || !same(p, page.Page{}) {
			t.Errorf("Read(%d) = %v, %d", no, p, e)
		}
	}
	if d.Writes() != writes || !slices.EqualFunc(was, sectorsOf(t, d), bytes.Equal) {
		t.Error("what was refused changed the disk")
	}
	holds(t, f, pageOf(0, 1, 1))
	holds(t, f, pageOf(1, 2, 2))
}

// Promise 3.2 and rule 3: neither what was handed in nor what was told is a way into the File.
func TestNothingIsShared(t *testing.T) {
	d := newDisk(t, 200)
	f := open(t, d, 0, 3)
	room := append(data(1), 77, 78)
	l := append(make([]page.Page, 0, 3), page.Page{No: 1, LSN: 2, Data: room[:api.Bytes]})
	spare := l[:2]
	spare[1] = pageOf(2, 9, 9)
	write(t, f, l...)
	if !bytes.Equal(room, append(data(1), 77, 78)) || !same(spare[1], pageOf(2, 9, 9)) || l[0].LSN != 2 {
		t.Error("Write changed what it was given")
	}
	clear(room)
	holds(t, f, pageOf(1, 2, 1))
	a, _ := f.Read(1)
	b, _ := f.Read(1)
	clear(a.Data[:cap(a.Data)])
	if !same(b, pageOf(1, 2, 1)) {
		t.Error("two answers share memory")
	}
	none, _ := f.Read(0)
	none.Data[0] = 1
	holds(t, f, page.Page{No: 0, Data: blank()})
	holds(t, f, pageOf(1, 2, 1))
}

// Promise 3.1: two Files side by side, and the sectors beside them.
func TestTwoFiles(t *testing.T) {
	d := newDisk(t, 1+page.Need(3)+page.Need(2)+1)
	first, behind := 1, 1+page.Need(3)
	edge := bytes.Repeat([]byte{5}, api.Sector)
	d.Write(0, edge)
	d.Write(d.Sectors()-1, edge)
	f, g := open(t, d, first, 3), open(t, d, behind, 2)
	for i := range byte(20) {
		write(t, f, pageOf(int(i)%3, uint64(i), i), pageOf((int(i)+1)%3, uint64(i), i+100))
		write(t, g, pageOf(int(i)%2, uint64(i), i+50))
	}
	for range 2 {
		holds(t, f, pageOf(0, 18, 18))
		holds(t, f, pageOf(1, 19, 19))
		holds(t, f, pageOf(2, 19, 119))
		holds(t, g, pageOf(0, 18, 68))
		holds(t, g, pageOf(1, 19, 69))
		d.Crash(nil)
		f, g = open(t, d, first, 3), open(t, d, behind, 2)
	}
	for _, i := range []int{0, d.Sectors() - 1} {
		if b, _ := d.Read(i); !bytes.Equal(b, edge) {
			t.Errorf("sector %d, of no File, was written", i)
		}
	}
}

// Promise 3.1: whatever byte is spoilt, Open is ErrForm, or each page is told as it was; so is Read on a File that stays open.
func TestSpoiltBytes(t *testing.T) {
	base := newDisk(t, page.Need(3))
	f := open(t, base, 0, 3)
	want := []page.Page{{No: 0, Data: blank()}, pageOf(1, 300, 1), pageOf(2, 2, 2)}
	write(t, f, want[1])
	write(t, f, want[2])
	refused := 0
	for i := range base.Sectors() {
		for at := range api.Sector {
			d := base.Copy()
			f := open(t, d, 0, 3)
			b, _ := d.Read(i)
			b[at] ^= 1 << (at % 8)
			d.Write(i, b)
			for no, p := range want {
				if q, e := f.Read(no); e == api.OK && !same(q, p) || e != api.OK && (e != api.ErrForm || !same(q, page.Page{})) {
					t.Fatalf("sector %d, byte %d: Read(%d) = LSN %d, %d", i, at, no, q.LSN, e)
				}
			}
			g, e := page.Open(d, 0, 3)
			if e == api.ErrForm && g == nil {
				refused++
				continue
			}
			if e != api.OK {
				t.Fatalf("sector %d, byte %d: Open = %v, %d", i, at, g, e)
			}
			for _, p := range want {
				holds(t, g, p)
			}
		}
	}
	if refused < 512 {
		t.Errorf("only %d spoilt bytes were refused", refused)
	}
}

// Promises 3.1, 3.4: bytes of no File are ErrForm, whatever sector they are in alone; none of it panics, and Read and Write go on by their rules.
func TestHostileBytes(t *testing.T) {
	r := noise()
	for range 300 {
		d := newDisk(t, page.Need(2))
		f := open(t, d, 0, 2)
		for i := range d.Sectors() {
			b := make([]byte, api.Sector)
			r.Read(b)
			d.Write(i, b)
		}
		if g, e := page.Open(d, 0, 2); g != nil || e != api.ErrForm {
			t.Fatalf("Open = %v, %d", g, e)
		}
		if p, e := f.Read(1); e != api.ErrForm || !same(p, page.Page{}) {
			t.Fatalf("Read = %v, %d", p, e)
		}
		write(t, f, pageOf(0, 1, 1), pageOf(1, 2, 2))
		holds(t, open(t, d, 0, 2), pageOf(0, 1, 1))
		holds(t, f, pageOf(1, 2, 2))
	}
	one := make([]byte, api.Sector)
	one[63] = 1
	for i := range 16 {
		d := newDisk(t, page.Need(2))
		d.Write(i, one)
		d.Flush()
		if g, e := page.Open(d, 0, 2); e == api.OK {
			holds(t, g, page.Page{No: 0, Data: blank()})
			holds(t, g, page.Page{No: 1, Data: blank()})
		} else if g != nil || e != api.ErrForm {
			t.Errorf("one byte in sector %d: Open = %v, %d", i, g, e)
		}
	}
}

// Promise 3.4: sums that are right over things that make no sense, in each sector and each row of eight.
func TestHostileSums(t *testing.T) {
	r := noise()
	numbers := []uint64{0, 1, 2, 7, 8, 9, 4095, 4096, 1 << 31, 1 << 32, 1 << 40, 1 << 62, 1<<63 - 1, 1 << 63, math.MaxUint64}
	for _, x := range numbers {
		for _, y := range numbers {
			two := pack.Join(pack.Uvar(x), pack.Uvar(y))
			for _, head := range [][]byte{append(pack.Uvar(x), pack.Uvar(y)...), two, bytes.Repeat([]byte{255}, 40)} {
				d := newDisk(t, page.Need(2))
				f := open(t, d, 0, 2)
				for i := range d.Sectors() {
					d.Write(i, pack.Seal(append(slices.Clone(head), make([]byte, 60-len(head))...)))
				}
				page.Open(d, 0, 2)
				whole := append(data(3), head[:min(len(head), 28)]...)
				whole = pack.Seal(append(whole, make([]byte, 508-len(whole))...))
				for i := range d.Sectors() {
					if i < 16 || r.Intn(2) == 0 {
						d.Write(i, whole[i%8*64:i%8*64+64])
					}
				}
				page.Open(d, 0, 2)
				f.Read(0)
				write(t, f, pageOf(0, 1, 1), pageOf(1, 2, 2))
				holds(t, open(t, d, 0, 2), pageOf(1, 2, 2))
			}
		}
	}
}

// Promise 3.1: a File that is opened over part of another one's half done Write writes in its own sectors alone.
func TestForeignSectors(t *testing.T) {
	for _, n := range []int{0, 9, 18, 26, 34} {
		base := newDisk(t, page.Need(30)+100)
		f := open(t, base, 2, 30)
		base.Fuse(n)
		f.Write([]page.Page{pageOf(29, 1, 1), pageOf(0, 1, 2)})
		base.Crash(nil)
		was := sectorsOf(t, base)
		for at := range base.Sectors() {
			for pages := 1; pages <= 30 && at+page.Need(pages) <= base.Sectors(); pages++ {
				d := base.Copy()
				if g, e := page.Open(d, at, pages); (g == nil) == (e == api.OK) || e != api.OK && e != api.ErrForm {
					t.Fatalf("Open(%d, %d) = %v, %d", at, pages, g, e)
				}
				if d.Writes() == base.Writes() {
					continue
				}
				for i, b := range sectorsOf(t, d) {
					if (i < at || i >= at+page.Need(pages)) && !bytes.Equal(b, was[i]) {
						t.Fatalf("Open(%d, %d) wrote sector %d", at, pages, i)
					}
				}
			}
		}
	}
}

// Promise 3.1: eight sectors that were written as one page are not told as another one.
func TestMisplacedSectors(t *testing.T) {
	base := newDisk(t, page.Need(5))
	f := open(t, base, 0, 5)
	want := make([]page.Page, 5)
	for no := range want {
		want[no] = pageOf(no, uint64(no), byte(no+1))
		write(t, f, want[no])
	}
	was := sectorsOf(t, base)
	for from := range len(was) - 7 {
		for to := 0; to < len(was); to += 8 {
			if from == to || bytes.Equal(slices.Concat(was[from:from+8]...), make([]byte, 512)) {
				continue
			}
			d := base.Copy()
			for i := range 8 {
				d.Write(to+i, was[from+i])
			}
			g, e := page.Open(d, 0, 5)
			if e == api.ErrForm && g == nil {
				continue
			}
			if e != api.OK {
				t.Fatalf("sectors %d on laid at %d: Open = %d", from, to, e)
			}
			for _, p := range want {
				holds(t, g, p)
			}
		}
	}
}

// keepSome: of what waits some Writes, by chance; now and then none, all, or all but one.
func keepSome(r *rand.Rand, waiting int) []int {
	left, odds := -1, r.Intn(5)
	if odds == 4 && waiting > 0 {
		left = r.Intn(waiting)
	}
	var keep []int
	for i := range waiting {
		if odds == 4 && i != left || odds < 4 && r.Intn(3) < odds {
			keep = append(keep, i)
		}
	}
	return keep
}

// reopen opens the File behind crash upon crash within Open, the last time with no Fuse.
func reopen(t *testing.T, r *rand.Rand, d *disk.Disk, at, pages int) *page.File {
	t.Helper()
	for range r.Intn(4) {
		d.Fuse(r.Intn(40))
		f, e := page.Open(d, at, pages)
		if e == api.OK && f.Pages() == pages || e == api.ErrDead && f == nil {
			d.Crash(keepSome(r, d.Waiting()))
			continue
		}
		t.Fatalf("Open with a Fuse = %v, %d", f, e)
	}
	return open(t, d, at, pages)
}

// oldOrNew: each page is as it was or as l should have made it; what is told becomes what was.
func oldOrNew(t *testing.T, f *page.File, was, l []page.Page, e api.Errno) {
	t.Helper()
	for no := range was {
		p, y := f.Read(no)
		if y != api.OK {
			t.Fatalf("Read(%d) = %d", no, y)
		}
		i := slices.IndexFunc(l, func(q page.Page) bool { return q.No == no })
		isNew := i >= 0 && same(p, l[i])
		if !isNew && (!same(p, was[no]) || i >= 0 && e == api.OK) {
			t.Fatalf("page %d has LSN %d; it had %d; the Write answered %d", no, p.LSN, was[no].LSN, e)
		}
		was[no] = p
	}
}

// Promises 3.2, 3.3: the disk dies at each step of a Write, and then at each step of Open, with nothing, all or some of what waited kept.
func TestEachStep(t *testing.T) {
	r := noise()
	l := []page.Page{pageOf(1, 2, 21), pageOf(2, 2, 22), pageOf(0, 2, 20)}
	for n := 0; ; n++ {
		base := newDisk(t, page.Need(4))
		f := open(t, base, 0, 4)
		write(t, f, pageOf(0, 1, 10), pageOf(1, 1, 11))
		base.Fuse(n)
		e := f.Write(l)
		for round := range 6 {
			d := base.Copy()
			d.Crash(keepRound(r, d.Waiting(), round))
			for m := range 40 {
				c := d.Copy()
				c.Fuse(m)
				g, x := page.Open(c, 0, 4)
				if x != api.OK && (x != api.ErrDead || g != nil) {
					t.Fatalf("Open = %v, %d", g, x)
				}
				c.Crash(keepRound(r, c.Waiting(), (round+m)%5))
				was := []page.Page{pageOf(0, 1, 10), pageOf(1, 1, 11), {No: 2, Data: blank()}, {No: 3, Data: blank()}}
				oldOrNew(t, open(t, c, 0, 4), was, l, e)
			}
		}
		if e == api.OK && !base.Dead() {
			return
		}
	}
}

func keepRound(r *rand.Rand, waiting, round int) []int {
	switch round {
	case 0:
		return nil
	case 1:
		all := make([]int, waiting)
		for i := range all {
			all[i] = i
		}
		return all
	}
	return keepSome(r, waiting)
}

// Promise 3.3: long lives with crash upon crash; a Write that did not come back OK may show, but no page ever goes back behind what was told.
func TestLongLives(t *testing.T) {
	r := noise()
	for life := range 60 {
		at, pages := r.Intn(5), 1+r.Intn(12)
		d := newDisk(t, at+page.Need(pages)+r.Intn(3))
		f := open(t, d, at, pages)
		was := make([]page.Page, pages)
		for no := range was {
			was[no] = page.Page{No: no, Data: blank()}
		}
		for step := range 60 {
			var l []page.Page
			for _, no := range r.Perm(pages)[:r.Intn(min(pages, 8)+1)] {
				l = append(l, pageOf(no, uint64(step+1), byte(r.Intn(256))))
			}
			d.Fuse(r.Intn(170) - 10)
			e := f.Write(l)
			if e != api.OK && e != api.ErrDead {
				t.Fatalf("life %d: Write = %d", life, e)
			}
			d.Crash(keepSome(r, d.Waiting()))
			// A File may also go on behind a crash without being opened again.
			if life%3 > 0 || r.Intn(4) == 0 {
				f = reopen(t, r, d, at, pages)
			}
			oldOrNew(t, f, was, l, e)
		}
	}
}

// Promise 3.3: of a Write that dies the first page alone is kept, again and again, where an older Write had two; the older one's second page never comes back.
func TestOldPagesStayGone(t *testing.T) {
	d := newDisk(t, page.Need(3))
	f := open(t, d, 0, 3)
	write(t, f, pageOf(0, 1, 1), pageOf(1, 1, 1))
	write(t, f, pageOf(1, 2, 2))
	keep := []int{0, 1, 2, 3, 4, 5, 6, 7, 8}
	l := []page.Page{pageOf(2, 9, 3), pageOf(0, 1<<20, 4)}
	for range 40000 {
		l[1].LSN++
		d.Fuse(17)
		if e := f.Write(l); e == api.OK {
			t.Fatal("the Write did not die")
		}
		d.Crash(keep)
		if p, e := f.Read(1); e != api.OK || p.LSN != 2 {
			t.Fatalf("Read(1) = LSN %d, %d, behind a Write with LSN %d", p.LSN, e, l[1].LSN)
		}
	}
}

// Promise 3.3: two Files on one disk, of which one writes when the disk dies; the other one is as it was.
func TestTwoFilesCrash(t *testing.T) {
	r := noise()
	d := newDisk(t, page.Need(3)+page.Need(2))
	f, g := open(t, d, 0, 3), open(t, d, page.Need(3), 2)
	was := []page.Page{{No: 0, Data: blank()}, {No: 1, Data: blank()}, {No: 2, Data: blank()}}
	for step := range 200 {
		other := pageOf(step%2, uint64(step), byte(step))
		write(t, g, other)
		l := []page.Page{pageOf(step%3, uint64(step), byte(step+1)), pageOf((step+1)%3, uint64(step), byte(step+2))}
		d.Fuse(r.Intn(50))
		e := f.Write(l)
		d.Crash(keepSome(r, d.Waiting()))
		g = open(t, d, page.Need(3), 2)
		f = reopen(t, r, d, 0, 3)
		holds(t, g, other)
		oldOrNew(t, f, was, l, e)
	}
}

// Promise 3.1: an Open that finds nothing half done leaves the disk alone.
func TestOpenOnlyMends(t *testing.T) {
	d := newDisk(t, page.Need(9))
	for i := range 5 {
		writes := d.Writes()
		f := open(t, d, 0, 9)
		if d.Writes() != writes || d.Waiting() != 0 {
			t.Errorf("round %d: Open wrote", i)
		}
		write(t, f, pageOf(i, 1, 1), pageOf(i+1, 1, 2))
		if d.Waiting() != 0 {
			t.Errorf("round %d: a Write left something that waits", i)
		}
	}
}
