package disk_test

import (
	"bytes"
	"math"
	"math/rand"
	"slices"
	"testing"

	"terrier/api"
	"terrier/disk"
)

// noise is the same at each run, so that a failure comes again.
func noise() *rand.Rand { return rand.New(rand.NewSource(1)) }

// filled: a sector of one byte again and again, but its first and last ones, so that a shift would show.
func filled(c byte) []byte {
	b := bytes.Repeat([]byte{c}, api.Sector)
	b[0], b[api.Sector-1] = c+1, c+2
	return b
}

func noughts() []byte { return make([]byte, api.Sector) }

func newDisk(t testing.TB, sectors int) *disk.Disk {
	t.Helper()
	d, e := disk.New(sectors)
	if e != api.OK || d == nil {
		t.Fatalf("New(%d) = %v, %d", sectors, d, e)
	}
	return d
}

func put(t testing.TB, d *disk.Disk, i int, b []byte) {
	t.Helper()
	if e := d.Write(i, b); e != api.OK {
		t.Fatalf("Write(%d) = %d", i, e)
	}
}

func flush(t testing.TB, d *disk.Disk) {
	t.Helper()
	if e := d.Flush(); e != api.OK {
		t.Fatalf("Flush() = %d", e)
	}
}

func holds(t testing.TB, d *disk.Disk, i int, want []byte) {
	t.Helper()
	if b, e := d.Read(i); e != api.OK || !bytes.Equal(b, want) {
		t.Errorf("Read(%d) = % x, %d, want % x", i, b, e, want)
	}
}

func counts(t testing.TB, d *disk.Disk, writes, waiting int) {
	t.Helper()
	if d.Writes() != writes || d.Waiting() != waiting {
		t.Errorf("Writes() = %d, Waiting() = %d, want %d, %d", d.Writes(), d.Waiting(), writes, waiting)
	}
}

// Promise 2.1: New and its bounds.
func TestNew(t *testing.T) {
	for _, n := range []int{math.MinInt, -8, -1, 0, 1, 7, 65537, 1 << 20, math.MaxInt} {
		if d, e := disk.New(n); d != nil || e != api.ErrArg {
			t.Errorf("New(%d) = %v, %d", n, d, e)
		}
	}
	for _, n := range []int{8, 9, 600, 65535, 65536} {
		d := newDisk(t, n)
		if d.Sectors() != n || d.Dead() {
			t.Errorf("New(%d): Sectors() = %d, Dead() = %t", n, d.Sectors(), d.Dead())
		}
		counts(t, d, 0, 0)
		for i := range n {
			holds(t, d, i, noughts())
		}
		put(t, d, n-1, filled(5))
		holds(t, d, n-1, filled(5))
	}
}

// Promise 2.1: what was written last is read, and just there; Writes and Waiting count.
func TestReadWrite(t *testing.T) {
	d := newDisk(t, 10)
	put(t, d, 3, filled(1))
	put(t, d, 3, filled(2))
	put(t, d, 0, filled(3))
	counts(t, d, 3, 3)
	holds(t, d, 3, filled(2))
	holds(t, d, 0, filled(3))
	for _, i := range []int{1, 2, 4, 5, 6, 7, 8, 9} {
		holds(t, d, i, noughts())
	}
	flush(t, d)
	counts(t, d, 3, 0)
	holds(t, d, 3, filled(2))
	put(t, d, 3, noughts())
	counts(t, d, 4, 1)
	holds(t, d, 3, noughts())
	flush(t, d)
	flush(t, d)
	counts(t, d, 4, 0)
	holds(t, d, 3, noughts())
	holds(t, d, 0, filled(3))
}

// Promise 2.1: wrong arguments, on a Disk that lives and on a dead one; they change nothing.
func TestWrongArguments(t *testing.T) {
	for _, dead := range []bool{false, true} {
		d := newDisk(t, 9)
		put(t, d, 8, filled(4))
		if dead {
			d.Fuse(0)
		}
		for _, i := range []int{math.MinInt, -1, 9, 10, math.MaxInt} {
			if b, e := d.Read(i); len(b) != 0 || e != api.ErrArg {
				t.Errorf("Read(%d) = % x, %d", i, b, e)
			}
			if e := d.Write(i, filled(1)); e != api.ErrArg {
				t.Errorf("Write(%d, 64 bytes) = %d", i, e)
			}
			if e := d.Write(i, nil); e != api.ErrArg {
				t.Errorf("Write(%d, nil) = %d", i, e)
			}
		}
		for _, n := range []int{0, 1, 63, 65, 128} {
			if e := d.Write(8, make([]byte, n)); e != api.ErrArg {
				t.Errorf("Write(8, %d bytes) = %d", n, e)
			}
		}
		counts(t, d, 1, 1)
		if d.Dead() != dead {
			t.Errorf("Dead() = %t, want %t", d.Dead(), dead)
		}
		d.Crash([]int{0})
		holds(t, d, 8, filled(4))
		holds(t, d, 0, noughts())
	}
}

// Promise 2.2: what of the waiting Writes is kept is done in their order, by their numbers.
func TestCrash(t *testing.T) {
	for _, c := range []struct {
		keep []int
		want [3]byte // of the sectors 0 to 2: 1 was flushed to each, then 11 to 0, 21 to 1, 12 to 0, 22 to 1 wait
	}{
		{nil, [3]byte{1, 1, 1}},
		{[]int{}, [3]byte{1, 1, 1}},
		{[]int{0}, [3]byte{11, 1, 1}},
		{[]int{1}, [3]byte{1, 21, 1}},
		{[]int{2}, [3]byte{12, 1, 1}},
		{[]int{3}, [3]byte{1, 22, 1}},
		{[]int{2, 0}, [3]byte{12, 1, 1}},
		{[]int{0, 3, 1}, [3]byte{11, 22, 1}},
		{[]int{3, 2, 1, 0}, [3]byte{12, 22, 1}},
		{[]int{1, 1, 1}, [3]byte{1, 21, 1}},
		{[]int{4, -1, math.MaxInt, math.MinInt}, [3]byte{1, 1, 1}},
		{[]int{4, 3, -1}, [3]byte{1, 22, 1}},
	} {
		d := newDisk(t, 8)
		for i := range 3 {
			put(t, d, i, filled(1))
		}
		flush(t, d)
		for i, b := range []byte{11, 21, 12, 22} {
			put(t, d, i%2, filled(b))
		}
		// Behind a further crash, with nothing that waits, all is as behind the first one.
		for range 2 {
			d.Crash(c.keep)
			for i, b := range c.want {
				holds(t, d, i, filled(b))
			}
			counts(t, d, 7, 0)
			if d.Dead() {
				t.Errorf("Crash(%v): dead", c.keep)
			}
		}
	}
}

// Promise 2.2: numbers count among what waits, not from New or from the last Crash's; what was kept lasts behind the next one.
func TestCrashAgain(t *testing.T) {
	d := newDisk(t, 8)
	put(t, d, 0, filled(1))
	put(t, d, 1, filled(2))
	d.Crash([]int{1})
	put(t, d, 0, filled(3))
	put(t, d, 1, filled(4))
	holds(t, d, 1, filled(4))
	d.Crash([]int{0})
	holds(t, d, 0, filled(3))
	holds(t, d, 1, filled(2))
	counts(t, d, 4, 0)
	put(t, d, 0, filled(5))
	flush(t, d)
	put(t, d, 0, filled(6))
	put(t, d, 1, filled(7))
	d.Crash([]int{1})
	holds(t, d, 0, filled(5))
	holds(t, d, 1, filled(7))
	counts(t, d, 7, 0)
}

func isDead(t testing.TB, d *disk.Disk, writes, waiting int) {
	t.Helper()
	if !d.Dead() {
		t.Error("Dead() = false")
	}
	if b, e := d.Read(0); len(b) != 0 || e != api.ErrDead {
		t.Errorf("Read(0) = % x, %d", b, e)
	}
	if e := d.Write(0, filled(9)); e != api.ErrDead {
		t.Errorf("Write(0) = %d", e)
	}
	if e := d.Flush(); e != api.ErrDead {
		t.Errorf("Flush() = %d", e)
	}
	if d.Sectors() != 8 {
		t.Errorf("Sectors() = %d", d.Sectors())
	}
	counts(t, d, writes, waiting)
}

// Promise 2.2: the Fuse lets just n Writes and Flushes be done; Reads and wrong arguments do not count.
func TestFuse(t *testing.T) {
	for n := range 12 {
		d := newDisk(t, 8)
		put(t, d, 0, filled(1))
		flush(t, d)
		d.Fuse(n)
		writes, waiting := 1, 0
		for i := range n {
			if d.Dead() {
				t.Fatalf("Fuse(%d): dead behind %d", n, i)
			}
			d.Read(0)
			d.Read(-1)
			d.Write(8, filled(1))
			d.Write(0, nil)
			if i%3 == 2 {
				flush(t, d)
				waiting = 0
			} else {
				put(t, d, i%3, filled(byte(i)))
				writes, waiting = writes+1, waiting+1
			}
		}
		isDead(t, d, writes, waiting)
	}
}

// Promise 2.2: the last Write that the Fuse lets be done waits, the last Flush makes last.
func TestFuseDoesItsLast(t *testing.T) {
	d := newDisk(t, 8)
	d.Fuse(1)
	put(t, d, 0, filled(1))
	isDead(t, d, 1, 1)
	c := d.Copy()
	d.Crash([]int{0})
	holds(t, d, 0, filled(1))
	c.Crash(nil)
	holds(t, c, 0, noughts())
	put(t, d, 1, filled(2))
	d.Fuse(1)
	flush(t, d)
	isDead(t, d, 2, 0)
	d.Crash(nil)
	holds(t, d, 1, filled(2))
}

// Promise 2.2: a dead Disk stays so whatever Fuse is set; a crash alone makes it live, and takes the Fuse away.
func TestDeadStaysDead(t *testing.T) {
	d := newDisk(t, 8)
	for _, n := range []int{0, 1, 5, -1, math.MinInt, math.MaxInt} {
		d.Fuse(0)
		d.Fuse(n)
		isDead(t, d, 0, 0)
	}
	d.Crash(nil)
	if d.Dead() {
		t.Error("dead behind a crash")
	}
	d.Fuse(2)
	d.Crash(nil)
	for range 5 {
		flush(t, d)
	}
	counts(t, d, 0, 0)
}

// Promise 2.2: a Fuse stands in the place of the one ahead; below 0 there is none.
func TestFuseAnew(t *testing.T) {
	for _, n := range []int{-1, -2, math.MinInt} {
		d := newDisk(t, 8)
		d.Fuse(2)
		flush(t, d)
		d.Fuse(n)
		for range 5 {
			flush(t, d)
		}
		if d.Dead() {
			t.Errorf("Fuse(%d): dead", n)
		}
	}
	d := newDisk(t, 8)
	d.Fuse(1)
	d.Fuse(3)
	flush(t, d)
	flush(t, d)
	d.Fuse(1)
	flush(t, d)
	isDead(t, d, 0, 0)
}

// Promise 2.2: a copy has what waits, the counts and the Fuse, and neither changes the other.
func TestCopy(t *testing.T) {
	d := newDisk(t, 8)
	put(t, d, 0, filled(1))
	flush(t, d)
	put(t, d, 0, filled(2))
	put(t, d, 1, filled(3))
	d.Fuse(3)
	c := d.Copy()
	if c.Sectors() != 8 {
		t.Errorf("Sectors() = %d", c.Sectors())
	}
	counts(t, c, 3, 2)
	put(t, c, 0, filled(4))
	put(t, d, 1, filled(5))
	flush(t, d)
	put(t, d, 2, filled(6))
	isDead(t, d, 5, 1)
	counts(t, c, 4, 3)
	holds(t, c, 0, filled(4))
	holds(t, c, 1, filled(3))
	holds(t, c, 2, noughts())
	put(t, c, 3, filled(7))
	put(t, c, 3, filled(8))
	isDead(t, c, 6, 5)
	d.Crash(nil)
	isDead(t, c.Copy(), 6, 5)
	c.Crash([]int{1, 3})
	holds(t, d, 0, filled(2))
	holds(t, d, 1, filled(5))
	holds(t, d, 2, noughts())
	holds(t, c, 0, filled(1))
	holds(t, c, 1, filled(3))
	holds(t, c, 2, noughts())
	holds(t, c, 3, filled(7))
}

// Promise 2.4: neither what was handed in nor what was told is a way into the Disk.
func TestNothingIsShared(t *testing.T) {
	d := newDisk(t, 8)
	room := append(filled(1), 77, 78)
	b := room[:api.Sector]
	keep := append(make([]int, 0, 4), 1, 0)
	put(t, d, 0, b)
	put(t, d, 1, b)
	if !bytes.Equal(room, append(filled(1), 77, 78)) {
		t.Error("Write changed what it was given")
	}
	clear(room)
	first, _ := d.Read(0)
	second, _ := d.Read(0)
	clear(first[:cap(first)])
	if !bytes.Equal(second, filled(1)) {
		t.Error("two answers share memory")
	}
	holds(t, d, 0, filled(1))
	d.Crash(keep[:1])
	if !slices.Equal(keep, []int{1, 0}) {
		t.Error("Crash changed what it was given")
	}
	holds(t, d, 0, noughts())
	holds(t, d, 1, filled(1))
	last, _ := d.Read(1)
	clear(last[:cap(last)])
	put(t, d, 2, filled(2))
	d.Crash(nil)
	holds(t, d, 1, filled(1))
	holds(t, d, 2, noughts())
}

// model is a Disk told another way: by all that was ever done to it.
type model struct {
	lasting [8][]byte
	waiting []struct {
		at int
		b  []byte
	}
	writes int
	fused  bool
	left   int
	dead   bool
}

func newModel() *model {
	m := &model{}
	for i := range m.lasting {
		m.lasting[i] = noughts()
	}
	return m
}

func (m *model) copy() *model {
	c := *m
	c.waiting = slices.Clone(m.waiting)
	return &c
}

func (m *model) step() {
	if m.fused {
		m.left--
		m.dead = m.left == 0
	}
}

func (m *model) write(i int, b []byte) api.Errno {
	if i < 0 || i >= 8 || len(b) != 64 {
		return api.ErrArg
	}
	if m.dead {
		return api.ErrDead
	}
	m.waiting = append(m.waiting, struct {
		at int
		b  []byte
	}{i, b})
	m.writes++
	m.step()
	return api.OK
}

func (m *model) flush() api.Errno {
	if m.dead {
		return api.ErrDead
	}
	for _, w := range m.waiting {
		m.lasting[w.at] = w.b
	}
	m.waiting = nil
	m.step()
	return api.OK
}

func (m *model) crash(keep []int) {
	for i, w := range m.waiting {
		if slices.Contains(keep, i) {
			m.lasting[w.at] = w.b
		}
	}
	m.waiting, m.fused, m.dead = nil, false, false
}

func (m *model) fuse(n int) {
	if m.dead {
		return
	}
	m.fused, m.left, m.dead = n >= 0, n, n == 0
}

func (m *model) read(i int) ([]byte, api.Errno) {
	if m.dead {
		return nil, api.ErrDead
	}
	for _, w := range slices.Backward(m.waiting) {
		if w.at == i {
			return w.b, api.OK
		}
	}
	return m.lasting[i], api.OK
}

func (m *model) check(t *testing.T, d *disk.Disk) {
	t.Helper()
	if d.Dead() != m.dead {
		t.Fatalf("Dead() = %t", d.Dead())
	}
	counts(t, d, m.writes, len(m.waiting))
	for i := range 8 {
		want, we := m.read(i)
		if b, e := d.Read(i); e != we || !bytes.Equal(b, want) {
			t.Fatalf("Read(%d) = % x, %d, want % x, %d", i, b, e, want, we)
		}
	}
}

func noiseKeep(r *rand.Rand) []int {
	var keep []int
	for range r.Intn(6) {
		keep = append(keep, r.Intn(10)-1)
	}
	return keep
}

// noiseStep does one thing to both, and holds their answers against each other.
func noiseStep(t *testing.T, r *rand.Rand, d *disk.Disk, m *model) {
	t.Helper()
	var got, want api.Errno
	switch r.Intn(16) {
	case 0, 1:
		got, want = d.Flush(), m.flush()
	case 2:
		keep := noiseKeep(r)
		d.Crash(keep)
		m.crash(keep)
	case 3:
		n := r.Intn(14) - 2
		d.Fuse(n)
		m.fuse(n)
	case 4:
		i, b := r.Intn(10)-1, make([]byte, 63+r.Intn(3))
		got, want = d.Write(i, b), m.write(i, b)
	default:
		i, b := r.Intn(8), make([]byte, api.Sector)
		r.Read(b)
		got, want = d.Write(i, b), m.write(i, b)
	}
	if got != want {
		t.Fatalf("answered %d, want %d", got, want)
	}
}

// Promises 2.1 to 2.3: long runs of calls, and copies of them that go on by themselves.
func TestRuns(t *testing.T) {
	r := noise()
	for range 40 {
		disks, models := []*disk.Disk{newDisk(t, 8)}, []*model{newModel()}
		for range 400 {
			k := r.Intn(len(disks))
			noiseStep(t, r, disks[k], models[k])
			if len(disks) < 5 && r.Intn(40) == 0 {
				disks, models = append(disks, disks[k].Copy()), append(models, models[k].copy())
			}
			for i, d := range disks {
				models[i].check(t, d)
			}
		}
	}
}

// Promise 2.3: whatever is kept of later Writes, what was flushed and not written again is there.
func TestFlushedLasts(t *testing.T) {
	for bits := range 1 << 5 {
		d := newDisk(t, 8)
		for i := range 8 {
			put(t, d, i, filled(byte(i)))
		}
		flush(t, d)
		var keep []int
		for i := range 5 {
			put(t, d, i%3, filled(byte(100+i)))
			if bits>>i&1 == 1 {
				keep = append(keep, i)
			}
		}
		d.Crash(keep)
		for i := 3; i < 8; i++ {
			holds(t, d, i, filled(byte(i)))
		}
		want := []byte{0, 1, 2}
		for _, k := range keep {
			want[k%3] = byte(100 + k)
		}
		for i, b := range want {
			holds(t, d, i, filled(b))
		}
	}
}
