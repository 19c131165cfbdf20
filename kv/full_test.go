package kv_test

import (
	"fmt"
	"maps"
	"math/rand"
	"testing"

	"terrier/api"
	"terrier/kv"
	"terrier/tree"
)

func freePages(t testing.TB, b *kv.Base) int {
	t.Helper()
	x, e := tree.Open(b.Store())
	ok(t, "tree.Open", e)
	n, e := x.Free()
	ok(t, "Free", e)
	return n
}

// Promise 8.1: saves are numbered from 1 on in each transaction, whatever Puts and Dels there are between them; Back goes to each that is ahead.
func TestSaves(t *testing.T) {
	_, b := made(t, 60, 4096, 8)
	want := list{}
	for round := range 3 {
		ok(t, "Begin", b.Begin())
		first := maps.Clone(want)
		was := []list{nil}
		for save := 1; save <= 9; save++ {
			for i := range save % 4 {
				put(t, b, want, name{round, int64(save)}, text(byte(save), save*30+i))
				del(t, b, want, name{round, int64(max(save-2, 0))})
			}
			if n, e := b.Save(); n != save || e != api.OK {
				t.Fatalf("Save() = %d, %d, want %d", n, e, save)
			}
			was = append(was, maps.Clone(want))
		}
		put(t, b, want, name{round, 3}, text('z', 700))
		next := 10
		for _, save := range []int{9, 9, 7, 4, 4, 1} {
			for _, none := range []int{-1, 0, next, next + 1, 1000} {
				if e := b.Back(none); e != api.ErrArg {
					t.Fatalf("Back(%d) = %d", none, e)
				}
			}
			tells(t, "behind a Back that is refused", b, want)
			ok(t, "Back", b.Back(save))
			want = maps.Clone(was[save])
			tells(t, fmt.Sprintf("behind Back(%d)", save), b, want)
			for gone := save + 1; gone < next; gone++ {
				if e := b.Back(gone); e != api.ErrArg {
					t.Fatalf("Back(%d) behind Back(%d) = %d", gone, save, e)
				}
			}
			put(t, b, want, name{round, 5}, text('q', save*50))
			if n, e := b.Save(); n != next || e != api.OK {
				t.Fatalf("Save() = %d, %d behind Back(%d), want %d", n, e, save, next)
			}
			next++
			put(t, b, want, name{round, 6}, text('r', save*60))
		}
		if round == 1 {
			ok(t, "Abort", b.Abort())
			want = first
		} else {
			ok(t, "Commit", b.Commit())
		}
		tells(t, "closed", b, want)
	}
}

// The Base's saves stay right beside saves and transactions of the Store's own.
func TestSavesBesideTheStore(t *testing.T) {
	_, b := made(t, 60, 4096, 8)
	s := b.Store()
	want := list{}
	ok(t, "Begin", b.Begin())
	put(t, b, want, name{1, 1}, text('a', 300))
	own, _ := s.Save()
	mine, _ := b.Save()
	was := maps.Clone(want)
	put(t, b, want, name{1, 2}, text('a', 300))
	second, _ := b.Save()
	if mine != 1 || second != 2 {
		t.Errorf("saves %d and %d", mine, second)
	}
	put(t, b, want, name{1, 3}, text('a', 300))
	ok(t, "the Store's Back", s.Back(own))
	tells(t, "behind the Store's Back", b, was)
	if e := b.Back(second); e != api.ErrArg {
		t.Errorf("Back = %d to a save that the Store has no more", e)
	}
	tells(t, "behind a Back that is refused", b, was)
	ok(t, "the Store's Commit and Begin", s.Commit(), s.Begin())
	if e := b.Back(second); e != api.ErrArg {
		t.Errorf("Back = %d to a save of a transaction that is closed", e)
	}
	want = maps.Clone(was)
	put(t, b, want, name{1, 4}, text('a', 300))
	save, e := b.Save()
	if save != 1 || e != api.OK {
		t.Errorf("Save() = %d, %d in a transaction that the Store began", save, e)
	}
	was = maps.Clone(want)
	put(t, b, want, name{1, 5}, text('a', 300))
	ok(t, "Back, Abort", b.Back(save))
	tells(t, "behind Back", b, was)
	ok(t, "Abort", s.Abort())
	delete(was, name{1, 4})
	tells(t, "behind Abort", b, was)
	ok(t, "Begin", b.Begin())
	for range 9 {
		s.Save()
	}
	if e := b.Back(1); e != api.ErrArg {
		t.Errorf("Back(1) = %d with saves of the Store's only", e)
	}
	if save, e := b.Save(); save != 1 || e != api.OK {
		t.Errorf("Save() = %d, %d behind saves of the Store's", save, e)
	}
}

// Promise 8.1: of a Put that is ErrFull nothing is done, for want of pages or of room in the log; no save is to be seen of it, and the transaction goes on or is aborted.
func TestFullDoesNothing(t *testing.T) {
	for _, c := range []struct{ pages, log, size int }{{8, 4096, 900}, {8, 4096, 4000}, {8, 4096, 120}, {20, 4096, 1700}, {30, 64, 40}, {30, 64, 4000}, {60, 100, 250}, {200, 300, 1000}} {
		_, b := made(t, c.pages, c.log, 3)
		want := list{}
		refused := 0
		r := rand.New(rand.NewSource(int64(c.pages + c.size)))
		for round := range 12 {
			what := fmt.Sprintf("%v, round %d", c, round)
			ok(t, what, b.Begin())
			was := maps.Clone(want)
			for i := range 40 {
				n := name{1, int64(r.Intn(40))}
				if i%5 == 4 {
					_, there := want[n]
					is, e := b.Del(n.kind, n.id)
					if e == api.OK && is == there {
						delete(want, n)
					} else if e != api.ErrFull || is {
						t.Fatalf("%s: Del = %v, %d", what, is, e)
					}
					continue
				}
				rec := text(byte(r.Intn(256)), c.size*(1+r.Intn(4))/4)
				switch e := b.Put(n.kind, n.id, rec); e {
				case api.OK:
					want[n] = string(rec)
				case api.ErrFull:
					refused++
					if refused < 20 {
						tells(t, what+": behind ErrFull", b, want)
					}
				default:
					t.Fatalf("%s: Put = %d", what, e)
				}
			}
			tells(t, what, b, want)
			if save, e := b.Save(); save != 1 || e != api.OK {
				t.Fatalf("%s: Save() = %d, %d", what, save, e)
			}
			if round%3 == 1 {
				ok(t, what+": Abort", b.Abort())
				want = was
			} else {
				ok(t, what+": Commit", b.Commit())
			}
			tells(t, what+": closed", b, want)
		}
		if refused == 0 {
			t.Errorf("%v: no Put was refused", c)
		}
	}
}

// Rule 8 of the document: of a Del that is ErrFull nothing is done.
func TestFullDel(t *testing.T) {
	_, b := made(t, 60, 64, 4)
	want := list{}
	for i := range int64(10) {
		for size := 300; size <= 1200; size += 300 {
			ok(t, "Begin", b.Begin())
			put(t, b, want, name{1, i}, text(byte(i), size))
			ok(t, "Commit", b.Commit())
		}
	}
	ok(t, "Begin", b.Begin())
	refused := 0
	for i := range int64(10) {
		switch is, e := b.Del(1, i); {
		case is && e == api.OK:
			delete(want, name{1, i})
		case !is && e == api.ErrFull:
			refused++
		default:
			t.Fatalf("Del = %v, %d", is, e)
		}
		tells(t, "behind Del", b, want)
	}
	if refused == 0 {
		t.Error("no Del was refused")
	}
	ok(t, "Commit", b.Commit())
	tells(t, "behind Commit", b, want)
}

// bound is a Base that is kept within promise 8.1: no call is ErrFull.
type bound struct {
	t    testing.TB
	r    *rand.Rand
	b    *kv.Base
	want list
	left int // how many bytes Puts may still have in this transaction
	did  int // Puts and Dels of this transaction
}

func newBound(t testing.TB, seed int64) *bound {
	pages, log := 96, 4096
	if seed%3 == 2 {
		pages, log = 120, 5000
	}
	_, b := made(t, pages, log, 64)
	return &bound{t: t, r: rand.New(rand.NewSource(seed)), b: b, want: list{}}
}

func (w *bound) begin() {
	w.t.Helper()
	if w.b.Store().Busy() {
		ok(w.t, "Commit", w.b.Commit())
	}
	ok(w.t, "Begin", w.b.Begin())
	w.left, w.did = 8000, 0
}

// rec: bytes of which hardly two in one place are alike.
func (w *bound) rec(size int) []byte {
	rec := make([]byte, size)
	w.r.Read(rec)
	return rec
}

// put: false, if the bounds forbid it.
func (w *bound) put(id int64, size int) bool {
	w.t.Helper()
	n := name{1, id}
	if w.did == 40 || size > w.left || w.want.size()-len(w.want[n])+size > 8000 {
		return false
	}
	put(w.t, w.b, w.want, n, w.rec(size))
	w.left -= size
	w.did++
	return true
}

func (w *bound) del(id int64) bool {
	w.t.Helper()
	if w.did == 40 {
		return false
	}
	del(w.t, w.b, w.want, name{1, id})
	w.did++
	return true
}

// Promise 8.1: on 96 pages and 4,096 log sectors no call is ErrFull within its bounds, with records of one size in whatever order, put, made anew and deleted.
func TestNeverFullOfOneSize(t *testing.T) {
	for seed, size := range []int{4000, 3999, 2667, 1000, 401, 400, 201, 200, 199, 150, 101, 100, 99, 55, 40, 20, 10, 5} {
		w := newBound(t, int64(seed))
		ids := w.r.Perm(8000 / size)
		for round := range 3 {
			for _, id := range ids {
				for w.left == 0 || !w.put(int64(id), size) {
					w.begin()
				}
			}
			tells(t, fmt.Sprintf("%d bytes each", size), w.b, w.want)
			w.r.Shuffle(len(ids), func(i, j int) { ids[i], ids[j] = ids[j], ids[i] })
			if round == 0 {
				continue // the next round puts over these
			}
			for _, id := range ids {
				for !w.del(int64(id)) {
					w.begin()
				}
			}
			tells(t, fmt.Sprintf("%d bytes each, deleted", size), w.b, list{})
		}
		if n := freePages(t, w.b); n < 94 {
			t.Errorf("%d pages free at last", n)
		}
	}
}

// Promise 8.1: nor is one with a record of each transaction's most bytes that becomes another one, over and over: 8,000 bytes put in a transaction, 16,000 deleted.
func TestNeverFullOverAndOver(t *testing.T) {
	w := newBound(t, 1)
	small := int64(100)
	for round := range 60 {
		w.begin()
		at := int64(round % 5)
		for _, n := range w.want.names() {
			if w.did < 10 {
				w.del(n.id)
			}
		}
		w.put(at, 4000)
		for range 13 {
			small = (small*7 + 1) % 50
			w.put(small+10, 101+w.r.Intn(200))
		}
		w.put(at, 10)
		w.put(at+70, w.left)
		for _, n := range w.want.names() {
			w.del(n.id)
		}
		if round%4 == 0 {
			tells(t, "over and over", w.b, w.want)
		}
	}
	tells(t, "at last", w.b, w.want)
}

// Promise 8.1: nor is one with records of any sizes, whatever came ahead.
func TestNeverFullOfAny(t *testing.T) {
	for seed, most := range []int{36, 60, 101, 150, 250, 500, 1500, 4000} {
		w := newBound(t, int64(seed))
		for round := range 60 {
			w.begin()
			dels := w.r.Intn(90)
			for range 60 {
				id := int64(w.r.Intn(250))
				if w.r.Intn(100) < dels {
					w.del(id)
				} else {
					w.put(id, w.r.Intn(most+1))
				}
			}
			if round%10 == 0 {
				tells(t, "any sizes", w.b, w.want)
			}
		}
	}
}

// Promise 8.1: nor is one whose pages are made as empty as they can be, again and again.
func TestNeverFullThinned(t *testing.T) {
	for seed, size := range []int{40, 50, 60, 100, 101, 150} {
		w := newBound(t, int64(seed*3))
		least := 96
		for range 6 {
			for i := 0; i < 400 && w.want.size()+size <= 8000; i++ {
				id := int64(w.r.Intn(100000))
				for w.left < size || !w.put(id, size) {
					w.begin()
				}
			}
			least = min(least, freePages(t, w.b))
			ok(t, "Commit", w.b.Commit())
			for _, n := range w.want.names() {
				ok(t, "Begin", w.b.Begin())
				had := freePages(t, w.b)
				_, e := w.b.Del(n.kind, n.id)
				ok(t, "Del", e)
				if freePages(t, w.b) != had {
					ok(t, "Abort", w.b.Abort())
					continue
				}
				delete(w.want, n)
				ok(t, "Commit", w.b.Commit())
			}
			w.begin()
		}
		tells(t, "thinned", w.b, w.want)
		t.Logf("%d bytes each: %d pages free at least", size, least)
	}
}

// Saves and Backs in between take no room that promise 8.1 needs.
func TestNeverFullWithSaves(t *testing.T) {
	w := newBound(t, 4)
	for round := range 30 {
		w.begin()
		var saves []int
		var lists []list
		for w.did < 40 {
			save, e := w.b.Save()
			ok(t, "Save", e)
			saves, lists = append(saves, save), append(lists, maps.Clone(w.want))
			if id := int64(w.r.Intn(30)); !w.put(id, 200) {
				w.del(id)
			}
			if w.r.Intn(3) == 0 {
				i := w.r.Intn(len(saves))
				ok(t, "Back", w.b.Back(saves[i]))
				w.want = maps.Clone(lists[i])
				saves, lists = saves[:i+1], lists[:i+1]
			}
		}
		if round%5 == 0 {
			tells(t, "with saves", w.b, w.want)
		}
	}
}

// W7: a transaction can always be aborted, however full its log is.
func TestAbortAlways(t *testing.T) {
	for log := 64; log < 80; log++ {
		_, b := made(t, 40, log, 2)
		want := list{}
		ok(t, "Begin", b.Begin())
		put(t, b, want, name{2, 2}, text('a', 150))
		ok(t, "Commit", b.Commit(), b.Store().Checkpoint(), b.Begin())
		for i := range int64(300) {
			if e := b.Put(1, i%50, text(byte(i), int(i)*7%90)); e != api.OK && e != api.ErrFull {
				t.Fatalf("Put = %d", e)
			}
		}
		ok(t, "Abort", b.Abort())
		tells(t, "behind Abort", b, want)
	}
}
