package tree_test

import (
	"bytes"
	"fmt"
	"maps"
	"math"
	"math/rand"
	"slices"
	"testing"

	"terrier/api"
	"terrier/disk"
	"terrier/tree"
	"terrier/txn"
)

const maxKey = math.MaxUint64

// noise is the same at each run, so that a failure comes again.
func noise() *rand.Rand { return rand.New(rand.NewSource(1)) }

// text: so many bytes that hang on c and on where they stand, so that a shift or a mixture would show.
func text(c byte, size int) []byte {
	b := make([]byte, size)
	for i := range b {
		b[i] = c + byte(i%251)*byte(i/48+1)
	}
	return b
}

func newDisk(t testing.TB, sectors int) *disk.Disk {
	t.Helper()
	d, e := disk.New(sectors)
	if e != api.OK {
		t.Fatalf("New(%d) = %d", sectors, e)
	}
	return d
}

func open(t testing.TB, d *disk.Disk, pages, log, frames int) (*txn.Store, *tree.Tree) {
	t.Helper()
	s, e := txn.Open(d, pages, log, frames)
	if e != api.OK {
		t.Fatalf("txn.Open(%d, %d, %d) = %d", pages, log, frames, e)
	}
	x, e := tree.Open(s)
	if e != api.OK || x == nil {
		t.Fatalf("Open = %v, %d", x, e)
	}
	return s, x
}

func made(t testing.TB, pages, log, frames int) (*disk.Disk, *txn.Store, *tree.Tree) {
	t.Helper()
	d := newDisk(t, txn.Need(pages, log))
	s, x := open(t, d, pages, log, frames)
	return d, s, x
}

func ok(t testing.TB, what string, l ...api.Errno) {
	t.Helper()
	for _, e := range l {
		if e != api.OK {
			t.Fatalf("%s: %v", what, l)
		}
	}
}

// list is what a Tree should have.
type list map[uint64]string

func (l list) keys() []uint64 { return slices.Sorted(maps.Keys(l)) }

// size: what promise 7.2 counts.
func (l list) size() int {
	n := 0
	for _, v := range l {
		n += 12 + len(v)
	}
	return n
}

func listOf(x *tree.Tree, lo, hi uint64) (l list, rising bool) {
	l, rising = list{}, true
	last := uint64(0)
	for k, v := range x.Range(lo, hi) {
		if len(l) > 0 && k <= last {
			rising = false
		}
		l[k], last = string(v), k
	}
	return l, rising
}

// tells: each call tells of the list, and nothing else.
func tells(t testing.TB, what string, x *tree.Tree, want list) {
	t.Helper()
	ok(t, what+": Check", x.Check())
	got, rising := listOf(x, 0, maxKey)
	if !rising || !maps.Equal(got, want) {
		t.Fatalf("%s: Range tells %d pairs (rising: %v), want %d", what, len(got), rising, len(want))
	}
	if n, e := x.Len(); n != len(want) || e != api.OK {
		t.Fatalf("%s: Len() = %d, %d, want %d", what, n, e, len(want))
	}
	if h, e := x.Depth(); (h == 0) != (len(want) == 0) || e != api.OK {
		t.Fatalf("%s: Depth() = %d, %d with %d pairs", what, h, e, len(want))
	}
	for k, v := range want {
		if b, is, e := x.Get(k); string(b) != v || !is || e != api.OK {
			t.Fatalf("%s: Get(%d) = %q, %v, %d, want %q", what, k, b, is, e, v)
		}
		if _, is := want[k+1]; !is {
			if b, is, e := x.Get(k + 1); b != nil || is || e != api.OK {
				t.Fatalf("%s: Get(%d) = %q, %v, %d, want none", what, k+1, b, is, e)
			}
		}
	}
}

func free(t testing.TB, x *tree.Tree) int {
	t.Helper()
	n, e := x.Free()
	ok(t, "Free", e)
	return n
}

// Promise 7.1: Open is ErrArg of no Store and of fewer than 8 pages.
func TestOpenRefuses(t *testing.T) {
	if x, e := tree.Open(nil); x != nil || e != api.ErrArg {
		t.Errorf("Open(nil) = %v, %d", x, e)
	}
	for pages := 1; pages < 8; pages++ {
		s, e := txn.Open(newDisk(t, txn.Need(pages, 64)), pages, 64, 2)
		ok(t, "txn.Open", e)
		if x, e := tree.Open(s); x != nil || e != api.ErrArg {
			t.Errorf("Open of %d pages = %v, %d", pages, x, e)
		}
	}
}

// Promise 7.1: a Store of noughts is an empty Tree, and nothing is written. Nearly all pages are free.
func TestOpenEmpty(t *testing.T) {
	for _, pages := range []int{8, 9, 100, 3823, 3824, 3825, 4096} {
		d, s, x := made(t, pages, 64, 4)
		writes := d.Writes()
		tells(t, "an empty one", x, list{})
		if n := free(t, x); n > pages || n < pages-2 {
			t.Errorf("%d of %d pages are free", n, pages)
		}
		if b, is, e := x.Get(0); b != nil || is || e != api.OK {
			t.Errorf("Get(0) = %q, %v, %d", b, is, e)
		}
		if d.Writes() != writes {
			t.Errorf("%d Writes by Open and questions", d.Writes()-writes)
		}
		for no := range min(pages, 20) {
			if b, e := s.Read(no); e != api.OK || !bytes.Equal(b, make([]byte, api.Bytes)) {
				t.Errorf("page %d is not of noughts (%d)", no, e)
			}
		}
	}
}

// Promise 7.1: Put and Del are ErrState without a transaction, ahead of all else; questions are not.
func TestStates(t *testing.T) {
	_, s, x := made(t, 10, 300, 4)
	long := make([]byte, 101)
	none := func(when string) {
		t.Helper()
		if e := x.Put(1, nil); e != api.ErrState {
			t.Errorf("%s: Put = %d", when, e)
		}
		if e := x.Put(1, long); e != api.ErrState {
			t.Errorf("%s: Put of a long one = %d", when, e)
		}
		for _, k := range []uint64{1, 5} {
			if is, e := x.Del(k); is || e != api.ErrState {
				t.Errorf("%s: Del(%d) = %v, %d", when, k, is, e)
			}
		}
	}
	none("at first")
	ok(t, "a transaction", s.Begin(), x.Put(5, text('a', 9)), s.Commit())
	none("behind Commit")
	tells(t, "behind Commit", x, list{5: string(text('a', 9))})
	ok(t, "a transaction", s.Begin(), x.Put(6, text('a', 9)), s.Abort())
	none("behind Abort")
	tells(t, "behind Abort", x, list{5: string(text('a', 9))})
}

// Promise 7.1: values have up to 100 bytes; a longer one is ErrBig, and nothing is done.
func TestBig(t *testing.T) {
	_, s, x := made(t, 20, 2048, 4)
	ok(t, "Begin", s.Begin())
	want := list{}
	for size := range 101 {
		v := text(byte(size), size)
		ok(t, "Put", x.Put(uint64(size), v))
		want[uint64(size)] = string(v)
		if size == 50 {
			ok(t, "between", s.Commit(), s.Begin())
		}
	}
	tells(t, "all sizes", x, want)
	for _, size := range []int{101, 102, 127, 128, 129, 480, 5000} {
		for _, k := range []uint64{3, 777} {
			if e := x.Put(k, make([]byte, size)); e != api.ErrBig {
				t.Errorf("Put of %d bytes = %d", size, e)
			}
		}
	}
	tells(t, "behind ErrBig", x, want)
}

// Promise 7.1: Put puts and replaces, Del tells whether the key was there, whatever keys and values.
func TestPutAndDel(t *testing.T) {
	_, s, x := made(t, 10, 2048, 4)
	ok(t, "Begin", s.Begin())
	want := list{}
	for _, k := range []uint64{0, maxKey, 1 << 63, 1<<63 - 1, maxKey - 1, 1, 255, 256} {
		if is, e := x.Del(k); is || e != api.OK {
			t.Fatalf("Del(%d) = %v, %d ahead of Put", k, is, e)
		}
		for _, size := range []int{0, 3, 100, 100, 2, 50, 0, 7} {
			v := text(byte(size)+byte(k), size)
			ok(t, "Put", x.Put(k, v))
			want[k] = string(v)
			tells(t, fmt.Sprintf("key %d of %d bytes", k, size), x, want)
		}
	}
	for _, k := range want.keys() {
		if is, e := x.Del(k); !is || e != api.OK {
			t.Fatalf("Del(%d) = %v, %d", k, is, e)
		}
		delete(want, k)
		if is, e := x.Del(k); is || e != api.OK {
			t.Fatalf("Del(%d) = %v, %d once more", k, is, e)
		}
		tells(t, fmt.Sprintf("without %d", k), x, want)
	}
}

// Promise 7.1: Range tells from lo to hi, both too, and ends where it is left.
func TestRange(t *testing.T) {
	_, s, x := made(t, 60, 2048, 4)
	want := list{}
	for i := range uint64(200) {
		if i%50 == 0 {
			if s.Busy() {
				ok(t, "Commit", s.Commit())
			}
			ok(t, "Begin", s.Begin())
		}
		k := i * 10
		if i == 199 {
			k = maxKey
		}
		ok(t, "Put", x.Put(k, text(byte(i), int(i%60))))
		want[k] = string(text(byte(i), int(i%60)))
	}
	ends := []uint64{0, 1, 9, 10, 11, 500, 505, 1000, 1979, 1980, 1981, 1990, 5000, maxKey - 1, maxKey}
	for _, lo := range ends {
		for _, hi := range ends {
			part := list{}
			for k, v := range want {
				if lo <= k && k <= hi {
					part[k] = v
				}
			}
			if got, rising := listOf(x, lo, hi); !rising || !maps.Equal(got, part) {
				t.Errorf("Range(%d, %d) tells %d pairs (rising: %v), want %d", lo, hi, len(got), rising, len(part))
			}
		}
	}
	keys := want.keys()
	for stop := range 200 {
		n := 0
		for k := range x.Range(0, maxKey) {
			if k != keys[n] {
				t.Fatalf("pair %d has key %d", n, k)
			}
			n++
			if n > stop {
				break
			}
		}
		if n != stop+1 {
			t.Errorf("%d pairs told until the break behind %d", n, stop+1)
		}
	}
	all := x.Range(0, maxKey)
	for range 2 {
		n := 0
		for range all {
			n++
		}
		if n != 200 {
			t.Errorf("a Range that is kept tells %d pairs", n)
		}
	}
}

// Rule 3 of the document: what is handed in is not kept, what is answered is new memory.
func TestOwnMemory(t *testing.T) {
	_, s, x := made(t, 10, 300, 4)
	own := append(make([]byte, 0, 40), "abc"...)
	spare := own[:40]
	spare[3] = 'z'
	ok(t, "Put", s.Begin(), x.Put(3, []byte("other")), x.Put(1, own), x.Put(2, own))
	if string(own) != "abc" || spare[3] != 'z' {
		t.Errorf("Put changed what it was given: %q", spare)
	}
	own[0] = 'x'
	want := list{1: "abc", 2: "abc", 3: "other"}
	tells(t, "behind a change of what was put", x, want)
	b, _, _ := x.Get(1)
	b = append(b, "over and over and over"...)
	b[0] = 'y'
	for k, v := range x.Range(0, 9) {
		if string(v) != want[k] {
			t.Errorf("Range tells %d: %q", k, v)
		}
		v = append(v, "over and over and over"...)
		v[0] = 'y'
	}
	tells(t, "behind a change of what was told", x, want)
	ok(t, "Commit", s.Commit())
	tells(t, "behind Commit", x, want)
}

// spread: the keys from 0 to n-1 in an order.
func spread(order string, n int) []uint64 {
	l := make([]uint64, n)
	for i := range l {
		l[i] = uint64(i)
	}
	switch order {
	case "falling":
		slices.Reverse(l)
	case "any":
		r := noise()
		r.Shuffle(n, func(i, j int) { l[i], l[j] = l[j], l[i] })
	case "inwards":
		for i := range l {
			l[i] = uint64(i / 2)
			if i%2 == 1 {
				l[i] = uint64(n - 1 - i/2)
			}
		}
	}
	return l
}

var orders = []string{"rising", "falling", "any", "inwards"}

// in does one thing for each key, 64 of them in a transaction.
func in(t testing.TB, s *txn.Store, keys []uint64, do func(k uint64) api.Errno) {
	t.Helper()
	for part := range slices.Chunk(keys, 64) {
		ok(t, "Begin", s.Begin())
		for _, k := range part {
			if e := do(k); e != api.OK {
				t.Fatalf("key %d: %d", k, e)
			}
		}
		ok(t, "Commit", s.Commit())
	}
}

// Promise 7.2: when all is deleted, all pages are free that were at first, in whatever order it goes. And a log of 2,048 sectors bears 64 Puts or Dels a transaction.
func TestAllFreeAgain(t *testing.T) {
	for _, size := range []int{0, 30, 100} {
		_, s, x := made(t, 400, 2048, 16)
		first := free(t, x)
		for _, put := range orders {
			for _, del := range orders {
				want := list{}
				in(t, s, spread(put, 500), func(k uint64) api.Errno {
					v := text(byte(k), (size+int(k)%3)%101)
					want[k] = string(v)
					return x.Put(k, v)
				})
				tells(t, "all put", x, want)
				if n := free(t, x); n >= first {
					t.Fatalf("%d pages free with %d pairs", n, len(want))
				}
				keys := spread(del, 500)
				in(t, s, keys[:350], func(k uint64) api.Errno {
					is, e := x.Del(k)
					if _, was := want[k]; was != is {
						t.Fatalf("Del(%d) = %v", k, is)
					}
					delete(want, k)
					return e
				})
				tells(t, "some deleted", x, want)
				in(t, s, keys[350:], func(k uint64) api.Errno { _, e := x.Del(k); return e })
				tells(t, "all deleted", x, list{})
				if n := free(t, x); n != first {
					t.Fatalf("%d pages free, %d at first", n, first)
				}
			}
		}
	}
}

// hoard puts pairs, going Back where there is no page, until so many in a row were refused; it tells whether each refusal was one of promise 7.2.
func hoard(t testing.TB, s *txn.Store, x *tree.Tree, want list, next func() (uint64, []byte)) {
	t.Helper()
	for refused := 0; refused < 4; {
		ok(t, "Begin", s.Begin())
		k, v := next()
		save, _ := s.Save()
		e := x.Put(k, v)
		switch {
		case e == api.OK:
			want[k] = string(v)
		case e != api.ErrFull || want.size()*5 <= s.Pages()*api.Bytes:
			t.Fatalf("%d pages: Put = %d with %d bytes", s.Pages(), e, want.size())
		default:
			// Want of pages is told ahead of all changes.
			tells(t, "behind ErrFull", x, want)
			ok(t, "Back", s.Back(save))
			refused++
		}
		ok(t, "Commit", s.Commit())
	}
	tells(t, "full", x, want)
}

// thin deletes as much as it can without a page becoming free.
func thin(t testing.TB, s *txn.Store, x *tree.Tree, want list) {
	t.Helper()
	for _, k := range want.keys() {
		ok(t, "Begin", s.Begin())
		had := free(t, x)
		is, e := x.Del(k)
		if !is || e != api.OK {
			t.Fatalf("Del(%d) = %v, %d", k, is, e)
		}
		if free(t, x) != had {
			ok(t, "Abort", s.Abort())
			continue
		}
		delete(want, k)
		ok(t, "Commit", s.Commit())
	}
	tells(t, "thinned out", x, want)
}

// Promise 7.2: ErrFull of pages comes only with more than a fifth of all pages' bytes, whatever keys and values, also if pages were made as empty as they can be.
func TestFifth(t *testing.T) {
	sizes := map[string]func(r *rand.Rand) int{
		"none":  func(r *rand.Rand) int { return 0 },
		"few":   func(r *rand.Rand) int { return r.Intn(10) },
		"any":   func(r *rand.Rand) int { return r.Intn(101) },
		"great": func(r *rand.Rand) int { return 100 },
		"both":  func(r *rand.Rand) int { return 100 * (r.Intn(9) / 8) },
	}
	r := noise()
	for _, pages := range []int{8, 9, 10, 13, 24, 60, 90} {
		for name, size := range sizes {
			_, s, x := made(t, pages, 400, 16)
			want := list{}
			up := uint64(1 << 40)
			hoard(t, s, x, want, func() (uint64, []byte) { up++; return up, text(byte(up), size(r)) })
			thin(t, s, x, want)
			down := uint64(1 << 40)
			hoard(t, s, x, want, func() (uint64, []byte) { down--; return down, text(byte(down), size(r)) })
			thin(t, s, x, want)
			hoard(t, s, x, want, func() (uint64, []byte) { return r.Uint64() >> r.Intn(30), text(byte(pages), size(r)) })
			if t.Failed() {
				t.Fatal(name)
			}
		}
	}
}

// Promise 7.2: with a log of 2,048 sectors and more, 64 Puts and Dels a transaction are ErrFull only for want of pages, whatever came ahead of them. (worst_test.go has the worst ones.)
func TestLogBears(t *testing.T) {
	r := noise()
	for _, log := range []int{2048, 2500} {
		for _, most := range []int{1, 12, 101} {
			_, s, x := made(t, 700, log, 9)
			want := list{}
			for round := range 150 {
				ok(t, "Begin", s.Begin())
				for range 64 {
					k := uint64(r.Intn(1500))
					if r.Intn(100) < 35+round/4 {
						is, e := x.Del(k)
						if _, was := want[k]; is != was || e != api.OK {
							t.Fatalf("Del(%d) = %v, %d", k, is, e)
						}
						delete(want, k)
						continue
					}
					v := text(byte(k), r.Intn(most))
					ok(t, "Put", x.Put(k, v))
					want[k] = string(v)
				}
				ok(t, "Commit", s.Commit())
			}
			tells(t, "at last", x, want)
		}
	}
}

// Promise 7.1: the Store's ErrFull is told, and Back then undoes what was done; so does Abort.
func TestLogFull(t *testing.T) {
	_, s, x := made(t, 40, 64, 4)
	want := list{}
	for round := range 30 {
		ok(t, "Begin", s.Begin())
		was := maps.Clone(want)
		e := api.OK
		for i := uint64(0); e == api.OK; i++ {
			save, _ := s.Save()
			k := uint64(round)*3 + i*100
			v := text(byte(k), int(k%101))
			if e = x.Put(k, v); e == api.OK {
				want[k] = string(v)
			} else if e == api.ErrFull {
				ok(t, "Back", s.Back(save))
			}
			if i > 1000 {
				t.Fatal("a log of 64 sectors is never full")
			}
		}
		if e != api.ErrFull {
			t.Fatalf("Put = %d", e)
		}
		tells(t, "behind Back", x, want)
		if round%3 == 0 {
			ok(t, "Abort", s.Abort())
			want = was
		} else {
			ok(t, "Commit", s.Commit())
		}
		tells(t, "closed", x, want)
		if len(want) > 50 {
			for _, k := range want.keys() {
				ok(t, "Begin", s.Begin())
				_, e := x.Del(k)
				ok(t, "Del", e, s.Commit())
			}
			want = list{}
		}
	}
}

// twin is a Tree with what it should have, in step.
type twin struct {
	t      testing.TB
	r      *rand.Rand
	d      *disk.Disk
	s      *txn.Store
	x      *tree.Tree
	pages  int
	log    int
	keys   int
	now    list
	lasts  list         // what was committed
	saves  map[int]list // of the open transaction
	frames func() int   // for the next Open
}

func newTwin(t testing.TB, seed int64, pages, log, keys int, frames func() int) *twin {
	d := newDisk(t, txn.Need(pages, log))
	s, x := open(t, d, pages, log, frames())
	return &twin{t: t, r: rand.New(rand.NewSource(seed)), d: d, s: s, x: x, pages: pages, log: log, keys: keys,
		now: list{}, lasts: list{}, saves: map[int]list{}, frames: frames}
}

func (w *twin) key() uint64 {
	k := uint64(w.r.Intn(w.keys))
	if w.r.Intn(2) == 0 {
		return maxKey - k<<50
	}
	return k
}

// step does one thing to both.
func (w *twin) step() {
	w.t.Helper()
	if !w.s.Busy() {
		ok(w.t, "Begin", w.s.Begin())
		w.saves = map[int]list{}
	}
	switch n := w.r.Intn(100); {
	case n < 45:
		w.put()
	case n < 85:
		k := w.key()
		is, e := w.x.Del(k)
		if e == api.ErrFull {
			w.abort()
			return
		}
		if _, was := w.now[k]; is != was || e != api.OK {
			w.t.Fatalf("Del(%d) = %v, %d", k, is, e)
		}
		delete(w.now, k)
	case n < 89:
		save, e := w.s.Save()
		ok(w.t, "Save", e)
		w.saves[save] = maps.Clone(w.now)
	case n < 92:
		w.back()
	case n < 97:
		ok(w.t, "Commit", w.s.Commit())
		w.lasts = maps.Clone(w.now)
	case n < 99:
		w.abort()
	default:
		ok(w.t, "Evict", w.s.Evict(w.r.Intn(w.pages)))
	}
}

func (w *twin) put() {
	k, v := w.key(), text(byte(w.r.Intn(256)), w.r.Intn(101)>>w.r.Intn(7))
	save, e := w.s.Save()
	ok(w.t, "Save", e)
	switch e := w.x.Put(k, v); e {
	case api.OK:
		w.now[k] = string(v)
	case api.ErrFull:
		ok(w.t, "Back", w.s.Back(save))
	default:
		w.t.Fatalf("Put(%d) = %d", k, e)
	}
}

// back goes to one of the saves by w.r, not by a map's order: what runs of one seed do is the same.
func (w *twin) back() {
	saves := slices.Sorted(maps.Keys(w.saves))
	if len(saves) == 0 {
		return
	}
	save := saves[w.r.Intn(len(saves))]
	ok(w.t, "Back", w.s.Back(save))
	w.now = maps.Clone(w.saves[save])
	maps.DeleteFunc(w.saves, func(later int, _ list) bool { return later > save })
}

func (w *twin) abort() {
	ok(w.t, "Abort", w.s.Abort())
	w.now = maps.Clone(w.lasts)
}

func (w *twin) crash() {
	w.d.Crash(someOf(w.r, w.d.Waiting()))
	w.s, w.x = open(w.t, w.d, w.pages, w.log, w.frames())
	w.now = maps.Clone(w.lasts)
}

func someOf(r *rand.Rand, n int) []int {
	var l []int
	part := r.Intn(5)
	for i := range n {
		if r.Intn(4) < part {
			l = append(l, i)
		}
	}
	return l
}

// Promises 7.1 and 7.3: a Tree is a list of pairs in order, within transactions, behind Abort and Back, and behind crashes.
func TestAgainstModel(t *testing.T) {
	for seed, c := range []struct{ pages, log, keys int }{{8, 64, 20}, {8, 500, 40}, {30, 300, 60}, {200, 1000, 300}, {200, 2048, 1500}} {
		r := noise()
		w := newTwin(t, int64(seed), c.pages, c.log, c.keys, func() int { return 1 + r.Intn(20) })
		for i := range 4000 {
			w.step()
			if i%60 == 0 {
				tells(t, fmt.Sprintf("%v, step %d", c, i), w.x, w.now)
			}
			if i%400 == 399 {
				w.crash()
				tells(t, fmt.Sprintf("%v, crash at step %d", c, i), w.x, w.now)
			}
		}
	}
}

// W10: what is evicted, and how many frames there are, changes no answer, with a log and pages that run full too.
func TestFramesUnseen(t *testing.T) {
	for seed, c := range []struct{ pages, log, keys int }{{60, 900, 100}, {8, 64, 30}, {8, 900, 200}} {
		var want []string
		for _, frames := range []int{64, 7, 2, 1} {
			got := toldBy(newTwin(t, int64(seed), c.pages, c.log, c.keys, func() int { return frames }))
			if want == nil {
				want = got
			}
			for i := range got {
				if got[i] != want[i] {
					t.Fatalf("%v: with %d frames step %d leaves %s, with 64 %s", c, frames, i, got[i], want[i])
				}
			}
		}
	}
}

// toldBy: what w tells behind each of its steps.
func toldBy(w *twin) []string {
	var told []string
	for range 1200 {
		w.step()
		n, e := w.x.Free()
		ok(w.t, "Free", e)
		h, e := w.x.Depth()
		ok(w.t, "Depth", e)
		told = append(told, fmt.Sprint(w.now.keys(), n, h, w.s.Busy(), w.s.Undone()))
	}
	tells(w.t, "at last", w.x, w.now)
	return told
}

// deed is what a run came to: what was committed, and what would be if the Commit that died had gone through.
type deed struct{ lasts, next list }

// run does transactions until the disk is dead.
func run(s *txn.Store, x *tree.Tree, seed int64) deed {
	r := rand.New(rand.NewSource(seed))
	w := deed{lasts: list{}, next: list{}}
	for range 8 {
		now := maps.Clone(w.lasts)
		if s.Begin() != api.OK {
			return w
		}
		for range 12 {
			k, v := uint64(r.Intn(40)), text(byte(r.Intn(256)), r.Intn(101))
			if r.Intn(3) == 0 {
				if _, e := x.Del(k); e != api.OK {
					return w
				}
				delete(now, k)
				continue
			}
			if x.Put(k, v) != api.OK {
				return w
			}
			now[k] = string(v)
		}
		if r.Intn(4) == 0 {
			if s.Abort() != api.OK {
				return w
			}
			continue
		}
		w.next = now
		if s.Commit() != api.OK {
			return w
		}
		w.lasts = now
	}
	return w
}

// Promise 7.3 and W2: behind a crash at whatever step the Tree is as the committed transactions left it, whole.
func TestCrashAtEachStep(t *testing.T) {
	const pages, log = 16, 600
	for seed, frames := range []int{1, 3, 64} {
		r := noise()
		d, s, x := made(t, pages, log, frames)
		d.Fuse(-1)
		before := d.Writes()
		if w := run(s, x, int64(seed)); len(w.lasts) == 0 {
			t.Fatal("nothing was committed")
		}
		total := d.Writes() - before + 40 // and the Flushes
		for n := 0; n < total; n += 4 {
			d, s, x := made(t, pages, log, frames)
			d.Fuse(n)
			w := run(s, x, int64(seed))
			for range 2 {
				c := d.Copy()
				c.Crash(someOf(r, c.Waiting()))
				_, x := open(t, c, pages, log, 1+r.Intn(4))
				ok(t, "Check", x.Check())
				if got, rising := listOf(x, 0, maxKey); !rising || !maps.Equal(got, w.lasts) && !maps.Equal(got, w.next) {
					t.Fatalf("%d frames, step %d: %d pairs, want %d or %d", frames, n, len(got), len(w.lasts), len(w.next))
				}
			}
		}
	}
}

// Promise 7.4: a disk that is dead is told, and everything ends.
func TestDead(t *testing.T) {
	d, s, x := made(t, 30, 600, 1)
	ok(t, "Begin", s.Begin())
	for k := range uint64(40) {
		ok(t, "Put", x.Put(k, text(byte(k), 50)))
	}
	d.Fuse(0)
	if b, is, e := x.Get(7); b != nil || is || e != api.ErrDead {
		t.Errorf("Get = %q, %v, %d", b, is, e)
	}
	if e := x.Put(7, nil); e != api.ErrDead {
		t.Errorf("Put = %d", e)
	}
	if is, e := x.Del(7); is || e != api.ErrDead {
		t.Errorf("Del = %v, %d", is, e)
	}
	for k := range x.Range(0, maxKey) {
		t.Errorf("Range tells %d", k)
	}
	for what, ask := range map[string]func() (int, api.Errno){"Len": x.Len, "Free": x.Free, "Depth": x.Depth} {
		if n, e := ask(); n != 0 || e != api.ErrDead {
			t.Errorf("%s = %d, %d", what, n, e)
		}
	}
	if e := x.Check(); e != api.ErrDead {
		t.Errorf("Check = %d", e)
	}
}

// all does every call once; that none panics and all end is what it is for.
func all(t testing.TB, r *rand.Rand, s *txn.Store, x *tree.Tree) {
	k := uint64(r.Intn(300))
	x.Get(k)
	last, n := uint64(0), 0
	for k := range x.Range(0, maxKey) {
		if n > 0 && k <= last {
			t.Fatalf("Range does not rise: %d, %d", last, k)
		}
		last = k
		if n++; n > 100000 {
			t.Fatal("Range does not end")
		}
	}
	x.Len()
	x.Free()
	x.Depth()
	x.Check()
	s.Begin()
	for range 20 {
		k := uint64(r.Intn(300))
		if r.Intn(2) == 0 {
			x.Put(k, text(byte(k), r.Intn(101)))
		} else {
			x.Del(k)
		}
	}
	if r.Intn(2) == 0 {
		s.Commit()
	}
	x.Check()
	if s.Busy() {
		s.Abort()
	}
}

// Promise 7.4: no call panics, and all end, whatever is in the pages.
func TestHostilePages(t *testing.T) {
	r := noise()
	for round := range 300 {
		_, s, x := made(t, 24, 1200, 8)
		ok(t, "Begin", s.Begin())
		for range r.Intn(120) {
			k := uint64(r.Intn(300))
			ok(t, "Put", x.Put(k, text(byte(k), r.Intn(40))))
		}
		ok(t, "Commit", s.Commit())
		for range 6 {
			ok(t, "Begin", s.Begin())
			for range 1 + r.Intn(4) {
				no, at := r.Intn(24), r.Intn(api.Bytes)
				if r.Intn(2) == 0 {
					no, at = no%5, at%100
				}
				b := make([]byte, 1+r.Intn(min(8<<r.Intn(6), api.Bytes-at)))
				if r.Intn(3) > 0 {
					r.Read(b)
				}
				ok(t, "Write", s.Write(no, at, b))
			}
			ok(t, "Commit", s.Commit())
			all(t, r, s, x)
		}
		if round%10 == 0 {
			ok(t, "Begin", s.Begin())
			for no := range 24 {
				b := make([]byte, api.Bytes)
				r.Read(b)
				ok(t, "Write", s.Write(no, 0, b))
			}
			ok(t, "Commit", s.Commit())
			all(t, r, s, x)
		}
	}
}

// Promise 7.4: a Range within which the Tree is changed is of no use, but ends.
func TestChangeWithinRange(t *testing.T) {
	_, s, x := made(t, 60, 16384, 8)
	ok(t, "Begin", s.Begin())
	for k := range uint64(200) {
		ok(t, "Put", x.Put(k, text(byte(k), 20)))
	}
	n := 0
	for k := range x.Range(0, 199) {
		if _, e := x.Del(k); e != api.OK {
			t.Fatal(e)
		}
		n++
	}
	for k := range x.Range(0, 1000) {
		if x.Put(k+500, text(byte(k), 20)) != api.OK {
			break
		}
	}
	ok(t, "Check", x.Check())
	if n > 200 {
		t.Errorf("%d pairs told", n)
	}
}

func Example() {
	d, _ := disk.New(txn.Need(8, 300))
	s, _ := txn.Open(d, 8, 300, 4)
	x, _ := tree.Open(s)
	s.Begin()
	x.Put(2, []byte("b"))
	x.Put(1, []byte("a"))
	s.Commit()
	for k, v := range x.Range(0, 9) {
		fmt.Printf("%d: %s\n", k, v)
	}
	// Output:
	// 1: a
	// 2: b
}
