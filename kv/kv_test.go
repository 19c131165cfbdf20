package kv_test

import (
	"bytes"
	"fmt"
	"maps"
	"math"
	"math/rand"
	"slices"
	"testing"

	"terrier/api"
	"terrier/disk"
	"terrier/kv"
	"terrier/txn"
)

const mostID = 1 << 40

// noise is the same at each run, so that a failure comes again.
func noise() *rand.Rand { return rand.New(rand.NewSource(1)) }

// text: so many bytes that hang on c and on where they stand, so that a shift or a mixture would show.
func text(c byte, size int) []byte {
	b := make([]byte, size)
	for i := range b {
		b[i] = c + byte(i%251)*byte(i/48+1)
	}
	return b
}

func newDisk(t testing.TB, sectors int) *disk.Disk {
	t.Helper()
	d, e := disk.New(sectors)
	if e != api.OK {
		t.Fatalf("New(%d) = %d", sectors, e)
	}
	return d
}

func open(t testing.TB, d *disk.Disk, pages, log, frames int) *kv.Base {
	t.Helper()
	b, e := kv.Open(d, pages, log, frames)
	if e != api.OK || b == nil {
		t.Fatalf("Open(%d, %d, %d) = %v, %d", pages, log, frames, b, e)
	}
	return b
}

func made(t testing.TB, pages, log, frames int) (*disk.Disk, *kv.Base) {
	t.Helper()
	d := newDisk(t, txn.Need(pages, log))
	return d, open(t, d, pages, log, frames)
}

func ok(t testing.TB, what string, l ...api.Errno) {
	t.Helper()
	for _, e := range l {
		if e != api.OK {
			t.Fatalf("%s: %v", what, l)
		}
	}
}

// name is what a record is under.
type name struct {
	kind int
	id   int64
}

// list is what a Base should have.
type list map[name]string

func (l list) size() int {
	n := 0
	for _, rec := range l {
		n += len(rec)
	}
	return n
}

func (l list) ids(kind int) []int64 {
	var ids []int64
	for n := range l {
		if n.kind == kind {
			ids = append(ids, n.id)
		}
	}
	slices.Sort(ids)
	return ids
}

func (l list) names() []name {
	return slices.SortedFunc(maps.Keys(l), func(a, b name) int {
		if a.kind != b.kind {
			return a.kind - b.kind
		}
		return int(a.id - b.id)
	})
}

func (l list) unused(kind int) int64 {
	id := int64(1)
	for slices.Contains(l.ids(kind), id) {
		id++
	}
	return id
}

// tellsKind: each call of a kind tells of the list, and nothing else.
func tellsKind(t testing.TB, what string, b *kv.Base, want list, kind int) {
	t.Helper()
	ids := want.ids(kind)
	n := 0
	for id, rec := range b.All(kind) {
		if n >= len(ids) || id != ids[n] || string(rec) != want[name{kind, id}] {
			t.Fatalf("%s: All(%d) tells at %d the record %d of %d bytes; want %v", what, kind, n, id, len(rec), ids)
		}
		n++
	}
	if n != len(ids) {
		t.Fatalf("%s: All(%d) tells %d records, want %d", what, kind, n, len(ids))
	}
	if n, e := b.Count(kind); n != len(ids) || e != api.OK {
		t.Fatalf("%s: Count(%d) = %d, %d, want %d", what, kind, n, e, len(ids))
	}
	if id, e := b.Unused(kind); id != want.unused(kind) || e != api.OK {
		t.Fatalf("%s: Unused(%d) = %d, %d, want %d", what, kind, id, e, want.unused(kind))
	}
}

// tells: each call tells of the list, and nothing else.
func tells(t testing.TB, what string, b *kv.Base, want list) {
	t.Helper()
	ok(t, what+": Check", b.Check())
	kinds := map[int]int{0: 1, 7: 1, 255: 1}
	for n, rec := range want {
		kinds[n.kind]++
		if got, is, e := b.Get(n.kind, n.id); string(got) != rec || !is || e != api.OK {
			t.Fatalf("%s: Get%v = %d bytes, %v, %d, want %d", what, n, len(got), is, e, len(rec))
		}
		next := name{n.kind, n.id + 1}
		if _, is := want[next]; !is && next.id <= mostID {
			if got, is, e := b.Get(next.kind, next.id); got != nil || is || e != api.OK {
				t.Fatalf("%s: Get%v = %d bytes, %v, %d, want none", what, next, len(got), is, e)
			}
		}
	}
	for kind := range kinds {
		tellsKind(t, what, b, want, kind)
	}
}

// put is a Put to both.
func put(t testing.TB, b *kv.Base, want list, n name, rec []byte) {
	t.Helper()
	if e := b.Put(n.kind, n.id, rec); e != api.OK {
		t.Fatalf("Put%v of %d bytes = %d", n, len(rec), e)
	}
	want[n] = string(rec)
}

// del is a Del to both.
func del(t testing.TB, b *kv.Base, want list, n name) {
	t.Helper()
	_, was := want[n]
	if is, e := b.Del(n.kind, n.id); is != was || e != api.OK {
		t.Fatalf("Del%v = %v, %d, want %v", n, is, e, was)
	}
	delete(want, n)
}

// Promise 8.1: Open has txn.Open's errors, then tree.Open's.
func TestOpenRefuses(t *testing.T) {
	d := newDisk(t, txn.Need(20, 100))
	for _, c := range [][3]int{{0, 100, 3}, {-1, 100, 3}, {4097, 100, 3}, {7, 100, 3}, {1, 100, 3}, {20, 63, 3}, {20, 16385, 3}, {20, 101, 3}, {21, 100, 3}, {20, 100, 0}, {20, 100, 65}} {
		if b, e := kv.Open(d, c[0], c[1], c[2]); b != nil || e != api.ErrArg {
			t.Errorf("Open%v = %v, %d", c, b, e)
		}
	}
	if b, e := kv.Open(nil, 20, 100, 3); b != nil || e != api.ErrArg {
		t.Errorf("Open of no disk = %v, %d", b, e)
	}
	if b, e := kv.Open(nil, 7, 100, 3); b != nil || e != api.ErrArg {
		t.Errorf("Open of no disk and 7 pages = %v, %d", b, e)
	}
	d.Fuse(0)
	for _, pages := range []int{7, 8, 20} {
		if b, e := kv.Open(d, pages, 100, 3); b != nil || e != api.ErrDead {
			t.Errorf("Open of a dead disk and %d pages = %v, %d", pages, b, e)
		}
	}
	if b, e := kv.Open(d, 20, 63, 3); b != nil || e != api.ErrArg {
		t.Errorf("Open of a dead disk and a short log = %v, %d", b, e)
	}
}

// Rule 8 of the document: an Open that is refused leaves no trace on the disk, also where the Store would have put it right.
func TestOpenRefusedChangesNothing(t *testing.T) {
	d, b := made(t, 7*4, 64, 3)
	want := list{}
	ok(t, "Begin", b.Begin())
	put(t, b, want, name{1, 1}, text('a', 500))
	ok(t, "Commit", b.Commit())
	writes, was := d.Writes(), d.Copy()
	for pages := range 8 {
		for log := 64; log < 200; log += 8 {
			if b, e := kv.Open(d, pages, log, 3); b != nil || e == api.OK {
				t.Fatalf("Open of %d pages = %v, %d", pages, b, e)
			}
		}
	}
	if d.Writes() != writes || d.Waiting() != was.Waiting() {
		t.Errorf("%d Writes by Opens that were refused", d.Writes()-writes)
	}
	tells(t, "behind refused Opens", open(t, d, 7*4, 64, 3), want)
}

// A disk of noughts is an empty Base, and questions write nothing.
func TestOpenEmpty(t *testing.T) {
	for _, pages := range []int{8, 9, 96, 4096} {
		d, b := made(t, pages, 64, 4)
		writes := d.Writes()
		tells(t, "an empty one", b, list{})
		if b.Store() == nil || b.Store().Pages() != pages || b.Store().Busy() {
			t.Errorf("the Store of %d pages is %v", pages, b.Store())
		}
		if d.Writes() != writes {
			t.Errorf("%d Writes by questions", d.Writes()-writes)
		}
	}
}

// Promise 8.1: kinds are 0 to 255, numbers 0 to 2^40; ErrArg comes ahead of ErrState, that ahead of ErrBig.
func TestBounds(t *testing.T) {
	_, b := made(t, 20, 600, 4)
	long := make([]byte, api.MaxRec+1)
	refused := func(when string) {
		t.Helper()
		for _, n := range []name{{-1, 1}, {256, 1}, {math.MinInt, 1}, {math.MaxInt, 1}, {1, -1}, {1, mostID + 1}, {1, math.MinInt64}, {1, math.MaxInt64}, {1, 2 * mostID}, {256, -1}, {257, 1}} {
			if rec, is, e := b.Get(n.kind, n.id); rec != nil || is || e != api.ErrArg {
				t.Errorf("%s: Get%v = %q, %v, %d", when, n, rec, is, e)
			}
			if e := b.Put(n.kind, n.id, nil); e != api.ErrArg {
				t.Errorf("%s: Put%v = %d", when, n, e)
			}
			if e := b.Put(n.kind, n.id, long); e != api.ErrArg {
				t.Errorf("%s: Put%v of a long one = %d", when, n, e)
			}
			if is, e := b.Del(n.kind, n.id); is || e != api.ErrArg {
				t.Errorf("%s: Del%v = %v, %d", when, n, is, e)
			}
		}
		for _, kind := range []int{-1, 256, 300, math.MinInt, math.MaxInt} {
			if n, e := b.Count(kind); n != 0 || e != api.ErrArg {
				t.Errorf("%s: Count(%d) = %d, %d", when, kind, n, e)
			}
			if id, e := b.Unused(kind); id != 0 || e != api.ErrArg {
				t.Errorf("%s: Unused(%d) = %d, %d", when, kind, id, e)
			}
			for id := range b.All(kind) {
				t.Errorf("%s: All(%d) tells %d", when, kind, id)
			}
		}
	}
	none := func(when string) {
		t.Helper()
		for _, rec := range [][]byte{nil, text('a', 200), long} {
			if e := b.Put(1, 1, rec); e != api.ErrState {
				t.Errorf("%s: Put of %d bytes = %d", when, len(rec), e)
			}
		}
		for id := range int64(3) {
			if is, e := b.Del(1, id); is || e != api.ErrState {
				t.Errorf("%s: Del(1, %d) = %v, %d", when, id, is, e)
			}
		}
	}
	want := list{}
	refused("at first")
	none("at first")
	ok(t, "Begin", b.Begin())
	put(t, b, want, name{1, 1}, text('a', 150))
	put(t, b, want, name{255, mostID}, text('b', 150))
	put(t, b, want, name{0, 0}, text('c', 150))
	refused("within")
	for _, size := range []int{api.MaxRec + 1, api.MaxRec + 100, 10000, 70000} {
		for id := range int64(3) {
			if e := b.Put(1, id, make([]byte, size)); e != api.ErrBig {
				t.Errorf("Put of %d bytes = %d", size, e)
			}
		}
	}
	tells(t, "behind refusals", b, want)
	ok(t, "Commit", b.Commit())
	none("behind Commit")
	ok(t, "Begin, Abort", b.Begin(), b.Abort())
	none("behind Abort")
	tells(t, "at last", b, want)
}

// Promise 8.1: Begin, Save, Back, Commit, Abort are the Store's.
func TestStates(t *testing.T) {
	_, b := made(t, 20, 600, 4)
	closed := func(when string) {
		t.Helper()
		if n, e := b.Save(); n != 0 || e != api.ErrState {
			t.Errorf("%s: Save() = %d, %d", when, n, e)
		}
		for _, save := range []int{-1, 0, 1, 2} {
			if e := b.Back(save); e != api.ErrState {
				t.Errorf("%s: Back(%d) = %d", when, save, e)
			}
		}
		if e := b.Commit(); e != api.ErrState {
			t.Errorf("%s: Commit() = %d", when, e)
		}
		if e := b.Abort(); e != api.ErrState {
			t.Errorf("%s: Abort() = %d", when, e)
		}
		if b.Store().Busy() {
			t.Errorf("%s: the Store is busy", when)
		}
	}
	closed("at first")
	for _, end := range []func() api.Errno{b.Commit, b.Abort} {
		ok(t, "Begin", b.Begin())
		if e := b.Begin(); e != api.ErrState || !b.Store().Busy() {
			t.Errorf("a second Begin() = %d", e)
		}
		_, e := b.Save()
		ok(t, "a transaction", e, b.Put(1, 1, nil), end())
		closed("behind the end")
	}
}

// Promise 8.1: records have 0 to 4,000 bytes; each size goes over into each other one.
func TestSizes(t *testing.T) {
	_, b := made(t, 60, 4096, 8)
	want := list{}
	for size := 0; size <= api.MaxRec; size++ {
		if size > 410 && size < 3880 && size%97 > 1 {
			continue
		}
		ok(t, "Begin", b.Begin())
		put(t, b, want, name{3, 9}, text(byte(size), size))
		ok(t, "Commit", b.Commit())
		if size%40 == 0 {
			tells(t, fmt.Sprintf("%d bytes", size), b, want)
		}
		if got, is, e := b.Get(3, 9); !bytes.Equal(got, text(byte(size), size)) || !is || e != api.OK {
			t.Fatalf("Get of %d bytes = %d bytes, %v, %d", size, len(got), is, e)
		}
	}
	put3 := func(id int64, size int) { put(t, b, want, name{3, id}, text(byte(size+int(id)), size)) }
	sizes := []int{0, 1, 99, 100, 101, 199, 200, 201, 300, 1999, 3900, 3901, 3999, 4000}
	for _, was := range sizes {
		for _, is := range sizes {
			ok(t, "Begin", b.Begin())
			put3(8, 120)
			put3(9, was)
			put3(10, 130)
			put3(9, is)
			tells(t, fmt.Sprintf("%d bytes behind %d", is, was), b, want)
			del(t, b, want, name{3, 9})
			del(t, b, want, name{3, 9})
			tells(t, fmt.Sprintf("none behind %d", is), b, want)
			ok(t, "Commit", b.Commit())
		}
	}
}

// Promise 8.1: records of like kinds and numbers do not meet.
func TestNames(t *testing.T) {
	_, b := made(t, 300, 16384, 16)
	want := list{}
	ids := []int64{0, 1, 2, 3, 127, 128, 255, 256, 1 << 15, 1<<15 + 1, 1<<20 - 1, 1 << 20, 1 << 32, 1<<32 + 1, 1<<39 - 1, 1 << 39, mostID - 1, mostID}
	var names []name
	for _, kind := range []int{0, 1, 2, 127, 128, 254, 255} {
		for _, id := range ids {
			names = append(names, name{kind, id})
		}
	}
	r := noise()
	r.Shuffle(len(names), func(i, j int) { names[i], names[j] = names[j], names[i] })
	ok(t, "Begin", b.Begin())
	for i, n := range names {
		put(t, b, want, n, text(byte(i), i%3*150))
	}
	tells(t, "all put", b, want)
	for i, n := range names {
		if i%2 == 0 {
			del(t, b, want, n)
		} else {
			put(t, b, want, n, text(byte(i+1), i%5*70))
		}
	}
	tells(t, "half deleted", b, want)
	for _, n := range names {
		del(t, b, want, n)
	}
	tells(t, "all deleted", b, list{})
}

// Promise 8.1: All tells by rising numbers, ends where it is left, and can be gone through again.
func TestAll(t *testing.T) {
	_, b := made(t, 96, 4096, 4)
	want := list{}
	ok(t, "Begin", b.Begin())
	for i := range int64(40) {
		put(t, b, want, name{int(i % 2), (i * 17) % 41}, text(byte(i), int(i*9)))
	}
	ids := want.ids(1)
	all := b.All(1)
	for stop := range len(ids) {
		n := 0
		for id := range all {
			if id != ids[n] {
				t.Fatalf("record %d has number %d", n, id)
			}
			if n++; n > stop {
				break
			}
		}
		if n != stop+1 {
			t.Errorf("%d records told until the break behind %d", n, stop+1)
		}
	}
	put(t, b, want, name{1, 1000}, nil)
	n := 0
	for range all {
		n++
	}
	if n != len(ids)+1 {
		t.Errorf("an All that is kept tells %d records behind a Put, want %d", n, len(ids)+1)
	}
}

// All tells the records as they are when the loop begins, whatever is done within it.
func TestChangeWithinAll(t *testing.T) {
	_, b := made(t, 96, 16384, 4)
	want := list{}
	ok(t, "Begin", b.Begin())
	for i := range int64(30) {
		put(t, b, want, name{1, i * 3}, text(byte(i), int(i*9)))
	}
	was := maps.Clone(want)
	n := 0
	for id, rec := range b.All(1) {
		if id != int64(n*3) || string(rec) != was[name{1, id}] {
			t.Fatalf("record %d is %d, of %d bytes", n, id, len(rec))
		}
		n++
		del(t, b, want, name{1, id})
		put(t, b, want, name{1, id + 1}, text('x', 120))
		put(t, b, want, name{1, (id + 45) % 90}, text('y', 230))
	}
	if n != 30 {
		t.Errorf("%d records told", n)
	}
	tells(t, "behind the loop", b, want)
}

// Promise 8.1: Unused is the least number from 1 on that has no record of its kind.
func TestUnused(t *testing.T) {
	_, b := made(t, 96, 4096, 4)
	want := list{}
	ok(t, "Begin", b.Begin())
	asks := func(id int64) {
		t.Helper()
		if n, e := b.Unused(5); n != id || e != api.OK {
			t.Fatalf("Unused = %d, %d, want %d", n, e, id)
		}
	}
	asks(1)
	put(t, b, want, name{5, 0}, text('a', 300))
	put(t, b, want, name{4, 1}, nil)
	put(t, b, want, name{6, 1}, nil)
	asks(1)
	put(t, b, want, name{5, 2}, text('a', 300))
	asks(1)
	put(t, b, want, name{5, 1}, text('a', 300))
	asks(3)
	for id := int64(3); id < 20; id++ {
		put(t, b, want, name{5, id}, text('a', int(id)*20))
		asks(id + 1)
	}
	put(t, b, want, name{5, mostID}, nil)
	asks(20)
	del(t, b, want, name{5, 0})
	asks(20)
	for _, id := range []int64{18, 7, 12, 3} {
		del(t, b, want, name{5, id})
		asks(want.unused(5))
	}
	tells(t, "at last", b, want)
}

// Rule 3 of the document: what is handed in is not changed and not kept, what is answered is new memory.
func TestOwnMemory(t *testing.T) {
	_, b := made(t, 20, 900, 4)
	for _, size := range []int{3, 100, 250} {
		own := append(make([]byte, 0, size+200), text('a', size)...)
		spare := own[size : size+200]
		spare[0] = 'z'
		ok(t, "Begin", b.Begin())
		want := list{}
		put(t, b, want, name{1, 1}, own)
		put(t, b, want, name{1, 2}, own)
		if !bytes.Equal(own, text('a', size)) || spare[0] != 'z' || slices.Max(spare[1:]) != 0 {
			t.Errorf("Put changed what it was given")
		}
		own[0]++
		tells(t, "behind a change of what was put", b, want)
		got, _, _ := b.Get(1, 1)
		other, _, _ := b.Get(1, 1)
		got = append(got, "over and over and over"...)
		got[0]++
		if !bytes.Equal(other, text('a', size)) {
			t.Errorf("two answers of Get share memory")
		}
		var told [][]byte
		for _, rec := range b.All(1) {
			for i := range rec[:cap(rec)] {
				rec[:cap(rec)][i] = 'y'
			}
			told = append(told, rec)
		}
		for _, rec := range b.All(1) {
			if !bytes.Equal(rec, text('a', size)) {
				t.Errorf("All tells what was changed")
			}
		}
		for _, rec := range told {
			if !bytes.Equal(rec, bytes.Repeat([]byte("y"), size)) {
				t.Errorf("All takes back what it told")
			}
		}
		tells(t, "behind a change of what was told", b, want)
		ok(t, "Abort", b.Abort())
	}
}
