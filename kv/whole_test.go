package kv_test

import (
	"fmt"
	"maps"
	"math"
	"math/rand"
	"testing"

	"terrier/api"
	"terrier/disk"
	"terrier/kv"
	"terrier/tree"
	"terrier/txn"
)

func treeOf(t testing.TB, b *kv.Base) *tree.Tree {
	t.Helper()
	x, e := tree.Open(b.Store())
	ok(t, "tree.Open", e)
	return x
}

// pairs: all that the Tree of a Base has.
func pairs(t testing.TB, b *kv.Base) map[uint64]string {
	t.Helper()
	l := map[uint64]string{}
	for key, val := range treeOf(t, b).Range(0, math.MaxUint64) {
		l[key] = string(val)
	}
	return l
}

// Promise 8.1: Check is ErrForm, if a record is not whole, whichever of its pieces is not there. Count says so too, and a Put or a Del mends it.
func TestNotWhole(t *testing.T) {
	for _, size := range []int{101, 200, 201, 300, 1050, 3901, 4000} {
		_, b := made(t, 60, 4096, 64)
		want := list{}
		ok(t, "Begin", b.Begin())
		put(t, b, want, name{1, 6}, text('a', 20))
		put(t, b, want, name{1, 8}, text('b', 20))
		beside := pairs(t, b)
		put(t, b, want, name{1, 7}, text('c', size))
		ok(t, "Commit, Check", b.Commit(), b.Check())
		n := 0
		for key := range pairs(t, b) {
			if _, is := beside[key]; is {
				continue
			}
			n++
			for _, mend := range []int{-1, 0, 150, size} {
				what := fmt.Sprintf("%d bytes, without %x", size, key)
				ok(t, what, b.Begin())
				if was, e := treeOf(t, b).Del(key); !was || e != api.OK {
					t.Fatalf("%s: Del = %v, %d", what, was, e)
				}
				tellsNotWhole(t, what, b, want, name{1, 7})
				mended := maps.Clone(want)
				if mend < 0 {
					_, e := b.Del(1, 7)
					ok(t, what, e)
					delete(mended, name{1, 7})
				} else {
					put(t, b, mended, name{1, 7}, text('d', mend))
				}
				tells(t, fmt.Sprintf("%s, mended by %d", what, mend), b, mended)
				ok(t, what, b.Abort())
			}
		}
		if n < 2 {
			t.Fatalf("a record of %d bytes has %d pieces", size, n)
		}
	}
}

// tellsNotWhole: the record has lost a piece, and no call tells the rest of it.
func tellsNotWhole(t testing.TB, what string, b *kv.Base, want list, lost name) {
	t.Helper()
	if e := b.Check(); e != api.ErrForm {
		t.Fatalf("%s: Check() = %d", what, e)
	}
	if n, e := b.Count(lost.kind); n != 0 || e != api.ErrForm {
		t.Fatalf("%s: Count() = %d, %d", what, n, e)
	}
	if rec, is, e := b.Get(lost.kind, lost.id); rec != nil || is || e != api.OK && e != api.ErrForm {
		t.Fatalf("%s: Get() = %d bytes, %v, %d", what, len(rec), is, e)
	}
	for id, rec := range b.All(lost.kind) {
		if id == lost.id || string(rec) != want[name{lost.kind, id}] {
			t.Fatalf("%s: All tells %d", what, id)
		}
	}
}

// Promise 8.1: Check is ErrForm of pieces that no whole record has: too short, too many, or none of a Base's own.
func TestForeignPieces(t *testing.T) {
	_, b := made(t, 60, 4096, 64)
	want := list{}
	ok(t, "Begin", b.Begin())
	put(t, b, want, name{1, 7}, text('c', 330))
	put(t, b, want, name{9, 7}, text('c', 4000))
	put(t, b, want, name{9, 9}, text('c', 30))
	ok(t, "Commit, Check", b.Commit(), b.Check())
	spoil := func(key uint64, val []byte) {
		t.Helper()
		ok(t, "Begin, Put", b.Begin(), treeOf(t, b).Put(key, val))
		if e := b.Check(); e != api.ErrForm {
			t.Errorf("%x of %d bytes: Check() = %d", key, len(val), e)
		}
		for _, kind := range []int{0, 1, 9, 255} {
			// Whatever they answer, they end.
			for range b.All(kind) {
			}
			b.Count(kind)
			b.Unused(kind)
			b.Get(kind, 7)
		}
		ok(t, "Abort", b.Abort())
	}
	there := pairs(t, b)
	for key, val := range there {
		last := key&1 == 1
		if !last {
			spoil(key, []byte(val[:99]))
			ok(t, "Begin, Put", b.Begin(), treeOf(t, b).Put(key, []byte(val[:99])))
			if rec, is, e := b.Get(int(key>>56), 7); rec != nil || is || e != api.ErrForm {
				t.Errorf("%x is cut off: Get = %d bytes, %v, %d", key, len(rec), is, e)
			}
			ok(t, "Abort", b.Abort())
		}
		if single := key&math.MaxInt16 == 1; single {
			continue // it would be a record wherever it were
		}
		spoil(key, nil)
		for bit := range 64 {
			if _, is := there[key^1<<bit]; !is {
				spoil(key^1<<bit, []byte(val))
			}
		}
	}
	for _, key := range []uint64{3, 80, 81, 82, 1 << 14, 1<<15 - 1, (mostID+1)<<15 | 1, (mostID + 1) << 15, 1<<56 - 1, math.MaxUint64} {
		for _, size := range []int{0, 1, 100} {
			spoil(key, text('f', size))
		}
	}
}

// Promise 8.1: Check is the Tree's, also if all records are whole.
func TestCheckOfTree(t *testing.T) {
	_, b := made(t, 60, 4096, 64)
	want := list{}
	ok(t, "Begin", b.Begin())
	put(t, b, want, name{1, 7}, text('c', 330))
	ok(t, "Commit", b.Commit())
	page, e := b.Store().Read(0)
	ok(t, "Read", e)
	refused := 0
	for at := range 12 {
		ok(t, "Begin, Write", b.Begin(), b.Store().Write(0, at, []byte{page[at] ^ 8}))
		e := treeOf(t, b).Check()
		if got, is, _ := b.Get(1, 7); e != api.OK && is && string(got) == want[name{1, 7}] {
			refused++
		}
		if e != api.OK && b.Check() != e {
			t.Errorf("byte %d: Check() = %d, the Tree's %d", at, b.Check(), e)
		}
		ok(t, "Abort", b.Abort())
	}
	if refused == 0 {
		t.Error("the Tree found no fault beside a whole record")
	}
}

// Promise 8.1: a record of more than 4,000 bytes is none, whoever laid its pieces.
func TestTooManyPieces(t *testing.T) {
	_, b := made(t, 60, 4096, 64)
	ok(t, "Begin, Put", b.Begin(), b.Put(2, 7, text('c', 4000)))
	x := treeOf(t, b)
	last := uint64(0)
	for key := range pairs(t, b) {
		last = max(last, key)
	}
	for more := range uint64(60) {
		if _, e := x.Del(last); e != api.OK {
			t.Fatalf("Del = %d", e)
		}
		ok(t, "Put", x.Put(last-1, text('d', 100)))
		last += 2
		ok(t, "Put", x.Put(last, text('e', 1)))
		if e := b.Check(); e != api.ErrForm {
			t.Fatalf("%d pieces more: Check() = %d", more+1, e)
		}
		if rec, is, e := b.Get(2, 7); rec != nil || is || e != api.ErrForm {
			t.Fatalf("%d pieces more: Get() = %d bytes, %v, %d", more+1, len(rec), is, e)
		}
	}
	ok(t, "Put, Check", b.Put(2, 7, text('c', 4000)), b.Check())
}

// twin is a Base with what it should have, in step.
type twin struct {
	t      testing.TB
	r      *rand.Rand
	d      *disk.Disk
	b      *kv.Base
	pages  int
	log    int
	most   int // bytes of a record
	now    list
	lasts  list         // what was committed
	saves  map[int]list // of the open transaction
	frames func() int   // for the next Open
}

func newTwin(t testing.TB, seed int64, pages, log, most int, frames func() int) *twin {
	d := newDisk(t, txn.Need(pages, log))
	return &twin{t: t, r: rand.New(rand.NewSource(seed)), d: d, b: open(t, d, pages, log, frames()), pages: pages, log: log, most: most,
		now: list{}, lasts: list{}, saves: map[int]list{}, frames: frames}
}

func (w *twin) name() name {
	n := name{w.r.Intn(3), int64(w.r.Intn(12))}
	if n.kind == 2 {
		return name{255, mostID - n.id}
	}
	return n
}

// step does one thing to both.
func (w *twin) step() {
	w.t.Helper()
	if !w.b.Store().Busy() {
		ok(w.t, "Begin", w.b.Begin())
		w.saves = map[int]list{}
	}
	switch k := w.r.Intn(100); {
	case k < 50:
		n, rec := w.name(), text(byte(w.r.Intn(256)), w.r.Intn(w.most+1)>>w.r.Intn(7))
		if e := w.b.Put(n.kind, n.id, rec); e == api.OK {
			w.now[n] = string(rec)
		} else if e != api.ErrFull {
			w.t.Fatalf("Put%v = %d", n, e)
		}
	case k < 80:
		w.del(w.name())
	case k < 86:
		save, e := w.b.Save()
		ok(w.t, "Save", e)
		w.saves[save] = maps.Clone(w.now)
	case k < 90:
		w.back()
	case k < 96:
		ok(w.t, "Commit", w.b.Commit())
		w.lasts = maps.Clone(w.now)
	case k < 98:
		ok(w.t, "Abort", w.b.Abort())
		w.now = maps.Clone(w.lasts)
	default:
		ok(w.t, "Evict", w.b.Store().Evict(w.r.Intn(w.pages)))
	}
}

func (w *twin) del(n name) {
	is, e := w.b.Del(n.kind, n.id)
	if e == api.ErrFull && !is {
		return
	}
	if _, was := w.now[n]; is != was || e != api.OK {
		w.t.Fatalf("Del%v = %v, %d", n, is, e)
	}
	delete(w.now, n)
}

func (w *twin) back() {
	last := 0
	for save := range w.saves {
		last = max(last, save)
	}
	if last == 0 {
		return
	}
	save := 1 + w.r.Intn(last)
	was, is := w.saves[save]
	if !is {
		if e := w.b.Back(save); e != api.ErrArg {
			w.t.Fatalf("Back(%d) = %d", save, e)
		}
		return
	}
	ok(w.t, "Back", w.b.Back(save))
	w.now = maps.Clone(was)
	maps.DeleteFunc(w.saves, func(later int, _ list) bool { return later > save })
}

func (w *twin) crash() {
	w.d.Crash(someOf(w.r, w.d.Waiting()))
	w.b = open(w.t, w.d, w.pages, w.log, w.frames())
	w.now = maps.Clone(w.lasts)
}

func someOf(r *rand.Rand, n int) []int {
	var l []int
	part := r.Intn(5)
	for i := range n {
		if r.Intn(4) < part {
			l = append(l, i)
		}
	}
	return l
}

// Promises 8.1 and 8.2: a Base is a list of records, within transactions, behind Abort and Back, and behind crashes.
func TestAgainstModel(t *testing.T) {
	for seed, c := range []struct{ pages, log, most int }{{8, 64, 200}, {8, 600, 400}, {30, 300, 1000}, {96, 4096, 4000}, {400, 3000, 4000}} {
		r := noise()
		w := newTwin(t, int64(seed), c.pages, c.log, c.most, func() int { return 1 + r.Intn(20) })
		for i := range 2500 {
			w.step()
			if i%50 == 0 {
				tells(t, fmt.Sprintf("%v, step %d", c, i), w.b, w.now)
			}
			if i%250 == 249 {
				w.crash()
				tells(t, fmt.Sprintf("%v, crash at step %d", c, i), w.b, w.now)
			}
		}
	}
}

// W10: what is evicted, and how many frames there are, changes no answer.
func TestFramesUnseen(t *testing.T) {
	var told []string
	for _, frames := range []int{1, 2, 7, 64} {
		w := newTwin(t, 3, 40, 900, 1500, func() int { return frames })
		for range 1500 {
			w.step()
		}
		tells(t, "at last", w.b, w.now)
		told = append(told, fmt.Sprint(w.now, freePages(t, w.b)))
	}
	for _, s := range told {
		if s != told[0] {
			t.Errorf("other answers with other frames")
		}
	}
}

// deed is what a run came to: what was committed, and what would be if the Commit that died had gone through.
type deed struct{ lasts, next list }

// run does transactions until the disk is dead.
func run(b *kv.Base, seed int64) deed {
	r := rand.New(rand.NewSource(seed))
	w := deed{lasts: list{}, next: list{}}
	for range 7 {
		now := maps.Clone(w.lasts)
		if b.Begin() != api.OK {
			return w
		}
		for range 5 {
			n, rec := name{r.Intn(2), int64(r.Intn(5))}, text(byte(r.Intn(256)), r.Intn(600))
			if r.Intn(3) == 0 {
				if _, e := b.Del(n.kind, n.id); e != api.OK {
					return w
				}
				delete(now, n)
				continue
			}
			if b.Put(n.kind, n.id, rec) != api.OK {
				return w
			}
			now[n] = string(rec)
		}
		if r.Intn(4) == 0 {
			if b.Abort() != api.OK {
				return w
			}
			continue
		}
		w.next = now
		if b.Commit() != api.OK {
			return w
		}
		w.lasts = now
	}
	return w
}

// has: are the records just those of the list?
func has(b *kv.Base, want list) bool {
	got := list{}
	for kind := range 2 {
		for id, rec := range b.All(kind) {
			got[name{kind, id}] = string(rec)
		}
	}
	return maps.Equal(got, want)
}

// Promise 8.2 and W2: behind a crash at whatever step, also within the Open behind it, the Base is as the committed transactions left it, whole.
func TestCrashAtEachStep(t *testing.T) {
	const pages, log = 24, 600
	for seed, frames := range []int{1, 3, 64} {
		r := noise()
		d, b := made(t, pages, log, frames)
		before := d.Writes()
		if w := run(b, int64(seed)); len(w.lasts) == 0 {
			t.Fatal("nothing was committed")
		}
		total := d.Writes() - before + 40 // and the Flushes
		for n := 0; n < total; n += 5 {
			d, b := made(t, pages, log, frames)
			d.Fuse(n)
			w := run(b, int64(seed))
			for range 1 + n%2 {
				c := d.Copy()
				c.Crash(someOf(r, c.Waiting()))
				for range r.Intn(3) {
					c.Fuse(r.Intn(60))
					kv.Open(c, pages, log, 1+r.Intn(4))
					c.Crash(someOf(r, c.Waiting()))
				}
				b := open(t, c, pages, log, 1+r.Intn(4))
				ok(t, "Check", b.Check())
				if !has(b, w.lasts) && !has(b, w.next) {
					t.Fatalf("%d frames, step %d: neither the %d nor the %d records", frames, n, len(w.lasts), len(w.next))
				}
			}
		}
	}
}

// Promise 8.3: a dead disk is told by each call, and everything ends.
func TestDead(t *testing.T) {
	d, b := made(t, 60, 2000, 1)
	ok(t, "Begin", b.Begin())
	for id := range int64(20) {
		ok(t, "Put", b.Put(1, id, text(byte(id), 300)))
	}
	save, _ := b.Save()
	d.Fuse(0)
	if rec, is, e := b.Get(1, 7); rec != nil || is || e != api.ErrDead {
		t.Errorf("Get = %q, %v, %d", rec, is, e)
	}
	if e := b.Put(1, 7, nil); e != api.ErrDead {
		t.Errorf("Put = %d", e)
	}
	if is, e := b.Del(1, 7); is || e != api.ErrDead {
		t.Errorf("Del = %v, %d", is, e)
	}
	if is, e := b.Del(1, 700); is || e != api.ErrDead {
		t.Errorf("Del of none = %v, %d", is, e)
	}
	for id := range b.All(1) {
		t.Errorf("All tells %d", id)
	}
	for _, kind := range []int{1, 2} {
		if n, e := b.Count(kind); n != 0 || e != api.ErrDead {
			t.Errorf("Count(%d) = %d, %d", kind, n, e)
		}
		if n, e := b.Unused(kind); n != 0 || e != api.ErrDead {
			t.Errorf("Unused(%d) = %d, %d", kind, n, e)
		}
	}
	if n, e := b.Save(); n != 0 || e != api.ErrDead {
		t.Errorf("Save = %d, %d", n, e)
	}
	for what, e := range map[string]api.Errno{"Back": b.Back(save), "Check": b.Check(), "Commit": b.Commit(), "Abort": b.Abort()} {
		if e != api.ErrDead {
			t.Errorf("%s = %d", what, e)
		}
	}
	if b, e := kv.Open(d, 60, 2000, 1); b != nil || e != api.ErrDead {
		t.Errorf("Open = %v, %d", b, e)
	}
}

// A disk that dies while some pages are at hand: each call tells what is so, or the error.
func TestDeadInBetween(t *testing.T) {
	d, b := made(t, 60, 2000, 1)
	want := list{}
	for id := range int64(30) {
		ok(t, "Begin", b.Begin())
		put(t, b, want, name{1, id}, text(byte(id), int(id)*17))
		ok(t, "Commit", b.Commit())
	}
	ok(t, "Checkpoint", b.Store().Checkpoint())
	r := noise()
	for round := range 600 {
		c := d.Copy()
		b := open(t, c, 60, 2000, 1+r.Intn(24))
		ok(t, "Begin", b.Begin())
		for range r.Intn(40) {
			b.Get(1, int64(r.Intn(32)))
		}
		c.Fuse(0)
		n := name{1, int64(r.Intn(32))}
		rec, there := want[n]
		switch round % 4 {
		case 0:
			if got, is, e := b.Get(n.kind, n.id); e == api.OK && (string(got) != rec || is != there) || e != api.OK && e != api.ErrDead {
				t.Fatalf("Get%v = %d bytes, %v, %d", n, len(got), is, e)
			}
		case 1:
			is, e := b.Del(n.kind, n.id)
			if e == api.OK && is != there || e != api.OK && e != api.ErrDead {
				t.Fatalf("Del%v = %v, %d", n, is, e)
			}
			if _, still, f := b.Get(n.kind, n.id); e == api.OK && f == api.OK && still {
				t.Fatalf("Del%v = %v, %d, but the record is there", n, is, e)
			}
		case 2:
			if k, e := b.Count(1); e == api.OK && k != 30 || e != api.OK && e != api.ErrDead {
				t.Fatalf("Count = %d, %d", k, e)
			}
		case 3:
			if id, e := b.Unused(1); e == api.OK && id != 30 || e != api.OK && e != api.ErrDead {
				t.Fatalf("Unused = %d, %d", id, e)
			}
		}
	}
}

// all does every call once; that none panics and all end is what it is for.
func all(r *rand.Rand, b *kv.Base) {
	kind, id := r.Intn(3), int64(r.Intn(20))
	b.Get(kind, id)
	n := 0
	for range b.All(kind) {
		n++
	}
	b.Count(kind)
	b.Unused(kind)
	b.Check()
	b.Begin()
	save, _ := b.Save()
	for range 8 {
		kind, id := r.Intn(3), int64(r.Intn(20))
		if r.Intn(2) == 0 {
			b.Put(kind, id, text(byte(id), r.Intn(500)))
		} else {
			b.Del(kind, id)
		}
	}
	if r.Intn(3) == 0 {
		b.Back(save)
	}
	if r.Intn(2) == 0 {
		b.Commit()
	}
	b.Check()
	if b.Store().Busy() {
		b.Abort()
	}
}

// Promise 8.3 and W9: no call panics, and all end, whatever is in the pages.
func TestHostilePages(t *testing.T) {
	r := noise()
	for round := range 200 {
		_, b := made(t, 40, 1200, 8)
		ok(t, "Begin", b.Begin())
		for range r.Intn(30) {
			b.Put(r.Intn(3), int64(r.Intn(20)), text(byte(round), r.Intn(500)))
		}
		ok(t, "Commit", b.Commit())
		for range 5 {
			ok(t, "Begin", b.Begin())
			for range 1 + r.Intn(4) {
				no, at := r.Intn(40), r.Intn(api.Bytes)
				if r.Intn(2) == 0 {
					no, at = no%8, at%100
				}
				junk := make([]byte, 1+r.Intn(min(8<<r.Intn(6), api.Bytes-at)))
				if r.Intn(3) > 0 {
					r.Read(junk)
				}
				b.Store().Write(no, at, junk)
			}
			ok(t, "Commit", b.Commit())
			all(r, b)
		}
	}
}

func Example() {
	d, _ := disk.New(txn.Need(96, 4096))
	b, _ := kv.Open(d, 96, 4096, 8)
	b.Begin()
	b.Put(1, 7, []byte("abc"))
	b.Put(1, 2, []byte("de"))
	b.Commit()
	rec, there, _ := b.Get(1, 7)
	fmt.Printf("%s %v\n", rec, there)
	for id, rec := range b.All(1) {
		fmt.Printf("%d: %s\n", id, rec)
	}
	// Output:
	// abc true
	// 2: de
	// 7: abc
}
