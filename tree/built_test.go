package tree

import (
	"bytes"
	"math"
	"math/rand"
	"slices"
	"testing"

	"terrier/api"
	"terrier/disk"
	"terrier/txn"
)

// builder lays a Tree's pages by hand, as no calls, or only very many, would lay them.
type builder struct {
	t     testing.TB
	r     *rand.Rand
	store *txn.Store
	tree  *Tree
	pages *pageMap
}

func newBuilder(t testing.TB, pages, log int) *builder {
	t.Helper()
	d, e := disk.New(txn.Need(pages, log))
	if e != api.OK {
		t.Fatal(e)
	}
	s, e := txn.Open(d, pages, log, 64)
	if e != api.OK {
		t.Fatal(e)
	}
	x, e := Open(s)
	if e != api.OK {
		t.Fatal(e)
	}
	m, e := x.readMap()
	if e != api.OK {
		t.Fatal(e)
	}
	return &builder{t: t, r: rand.New(rand.NewSource(1)), store: s, tree: x, pages: m}
}

func (b *builder) noise(size int) []byte {
	v := make([]byte, size)
	b.r.Read(v)
	return v
}

func (b *builder) lay(no int, page []byte) {
	b.t.Helper()
	for _, e := range []api.Errno{b.store.Begin(), b.store.Write(no, 0, page), b.store.Commit()} {
		if e != api.OK {
			b.t.Fatal(e)
		}
	}
}

// scatter: the cells in any slots, with room between any two of them.
func (b *builder) scatter(cells []cell) []cell {
	out := slices.Clone(cells)
	slots := b.r.Perm(len(out))
	at := headBytes + slotBytes*len(out)
	room := api.Bytes - headBytes - sizeOf(out)
	for k, i := range b.r.Perm(len(out)) {
		gap := room / (len(out) - k + 1)
		room -= gap
		at += gap
		out[i].slot, out[i].at = slots[k], at
		at += out[i].body()
	}
	return out
}

// scatterEven: the cells in any slots and places that pages above the leaves have.
func (b *builder) scatterEven(cells []cell) []cell {
	out := slices.Clone(cells)
	const most = roomBytes / (keyBytes + numBytes + slotBytes)
	slots, places := b.r.Perm(most), b.r.Perm(most)
	for i := range out {
		out[i].slot, out[i].at = slots[i], api.Bytes-(keyBytes+numBytes)*(places[i]+1)
	}
	return out
}

func (b *builder) page(level int, cells []cell) int {
	b.t.Helper()
	no, ok := b.pages.take()
	if !ok {
		b.t.Fatal("no page is free")
	}
	n := &node{no: no, level: level, was: b.noise(api.Bytes)}
	if level == leafLevel {
		n.cells = b.scatter(cells)
	} else {
		n.cells = b.scatterEven(cells)
	}
	b.lay(no, n.image())
	return no
}

// leaf: a leaf with keys from the given one on, two apart, and values of these sizes; and the key behind them.
func (b *builder) leaf(from uint64, sizes ...int) (cell, uint64) {
	b.t.Helper()
	var cells []cell
	key := from
	for _, size := range sizes {
		cells = append(cells, cell{key: key, val: b.noise(size)})
		key += 2 + uint64(b.r.Intn(1<<40))*2
	}
	return leadTo(from, b.page(leafLevel, cells)), key
}

// above: pages of that level that lead to the others, so many each.
func (b *builder) above(level int, below []cell, many int) []cell {
	b.t.Helper()
	var out []cell
	for part := range slices.Chunk(below, many) {
		out = append(out, leadTo(part[0].key, b.page(level, part)))
	}
	return out
}

func (b *builder) root(no int) {
	b.t.Helper()
	b.pages.setRoot(no)
	for i := range b.pages.first {
		b.lay(i, b.pages.is[i*api.Bytes:(i+1)*api.Bytes])
	}
}

func same(size, many int) []int {
	return slices.Repeat([]int{size}, many)
}

// fillNoise: what is free has something in it that was of use once, so that all that is laid there differs.
func (b *builder) fillNoise() {
	for no := b.pages.first; no < b.pages.end; no++ {
		if !b.pages.used(no) {
			b.lay(no, b.noise(api.Bytes))
		}
	}
}

// great builds a Tree of four levels: so many pages above the leaves as the sizes tell, each with so many leaves; of each first one of a group one leaf is by its own, and its fifth key is told.
func (b *builder) great(groups int, sizes []int, usual, own []int) []uint64 {
	b.t.Helper()
	var twos []cell
	var keys []uint64
	next := uint64(0)
	for range groups {
		for i, many := range sizes {
			var leaves []cell
			at := b.r.Intn(many)
			for j := range many {
				take := usual
				if i == 0 && j == at {
					take = own
				}
				x, behind := b.leaf(next, take...)
				if i == 0 && j == at {
					n, e := b.tree.load(b.pages, x.page(), leafLevel)
					if e != api.OK {
						b.t.Fatal(e)
					}
					keys = append(keys, n.cells[len(n.cells)/2].key)
				}
				leaves, next = append(leaves, x), behind
			}
			twos = append(twos, b.above(2, leaves, many)...)
		}
	}
	threes := b.above(3, twos, 32)
	b.root(b.page(4, threes))
	b.fillNoise()
	if e := b.tree.Check(); e != api.OK {
		b.t.Fatalf("Check of what was laid = %d", e)
	}
	if e := b.store.Checkpoint(); e != api.OK {
		b.t.Fatal(e)
	}
	return keys
}

// Promise 7.2: a log of 2,048 sectors bears 64 Puts each of which parts a full leaf and the full page above it, whatever the leaf has.
func TestWorstPuts(t *testing.T) {
	for _, own := range [][]int{same(0, 47), same(1, 43), same(20, 15), same(36, 10), same(80, 5), same(100, 4), append(same(0, 36), 100)} {
		for _, replace := range []bool{false, true} {
			b := newBuilder(t, 4096, 2048)
			keys := b.great(64, []int{39}, same(0, 12), own)
			if e := b.store.Begin(); e != api.OK {
				t.Fatal(e)
			}
			for i, k := range keys {
				if !replace {
					k++
				}
				if e := b.tree.Put(k, b.noise(mostValue)); e != api.OK {
					t.Fatalf("leaves of %d pairs: Put %d = %d", len(own), i, e)
				}
			}
			if e := b.store.Commit(); e != api.OK {
				t.Fatal(e)
			}
			if e := b.tree.Check(); e != api.OK {
				t.Fatalf("Check = %d", e)
			}
		}
	}
}

// Promise 7.2: so it does 64 Dels each of which makes one of two leaves, and one of two pages above them.
func TestWorstDels(t *testing.T) {
	for _, c := range []struct{ usual, own []int }{
		{same(0, 24), same(0, 12)},
		{same(0, 24), []int{100, 0}},
		{same(19, 8), []int{50, 50}},
		{same(40, 4), []int{40, 10, 10, 20}},
		{same(100, 2), same(2, 10)},
	} {
		b := newBuilder(t, 4096, 2048)
		keys := b.great(64, []int{10, 19}, c.usual, c.own)
		had := b.free()
		if e := b.store.Begin(); e != api.OK {
			t.Fatal(e)
		}
		for i, k := range keys {
			if is, e := b.tree.Del(k); !is || e != api.OK {
				t.Fatalf("leaves of %d pairs: Del %d = %v, %d", len(c.own), i, is, e)
			}
		}
		if e := b.store.Commit(); e != api.OK {
			t.Fatal(e)
		}
		if e := b.tree.Check(); e != api.OK {
			t.Fatalf("Check = %d", e)
		}
		if now := b.free(); now < had+2*len(keys) {
			t.Errorf("only %d pages became free", now-had)
		}
	}
}

func (b *builder) free() int {
	b.t.Helper()
	n, e := b.tree.Free()
	if e != api.OK {
		b.t.Fatal(e)
	}
	return n
}

// sound: a Tree of two levels, and where its pages are.
func sound(t testing.TB) (b *builder, leaves []cell, root int) {
	b = newBuilder(t, 12, 300)
	next := uint64(0)
	for range 3 {
		var x cell
		x, next = b.leaf(next, same(30, 4)...)
		leaves = append(leaves, x)
	}
	root = b.page(2, leaves)
	b.root(root)
	return b, leaves, root
}

func (b *builder) node(no int) *node {
	b.t.Helper()
	n, e := b.tree.load(b.pages, no, anyLevel)
	if e != api.OK {
		b.t.Fatal(e)
	}
	return n
}

// check: what Check tells of the page as it is now.
func (b *builder) check(n *node) api.Errno {
	b.t.Helper()
	b.lay(n.no, n.image())
	return b.tree.Check()
}

// Promise 7.1: Check is ErrForm of each thing that it names, and of nothing else.
func TestCheck(t *testing.T) {
	for name, spoil := range map[string]func(b *builder, leaves []cell, root int){
		"a key below those of its page":    func(b *builder, leaves []cell, root int) { b.rekey(leaves[1].page(), 0, 1) },
		"a key above those of its page":    func(b *builder, leaves []cell, root int) { b.rekey(leaves[1].page(), 3, math.MaxUint64) },
		"the next page's first key":        func(b *builder, leaves []cell, root int) { b.rekey(leaves[0].page(), 3, leaves[1].key) },
		"a key that is there twice":        func(b *builder, leaves []cell, root int) { b.twice(leaves[1].page()) },
		"keys that no page may have":       func(b *builder, leaves []cell, root int) { b.rekey(leaves[0].page(), 0, 2); b.rekey(root, 0, 1) },
		"keys ahead of the first page":     func(b *builder, leaves []cell, root int) { b.rekey(root, 0, 1) },
		"a leaf on a level of its own":     func(b *builder, leaves []cell, root int) { b.relevel(leaves[2].page(), 2) },
		"a root on a level of its own":     func(b *builder, leaves []cell, root int) { b.relevel(root, 3) },
		"a root that is a leaf of numbers": func(b *builder, leaves []cell, root int) { b.relevel(root, 1) },
		"a page of level nought":           func(b *builder, leaves []cell, root int) { b.relevel(leaves[0].page(), 0) },
		"a leaf less than a quarter full":  func(b *builder, leaves []cell, root int) { b.shorten(leaves[1].page(), 3) },
		"a page that is neither":           func(b *builder, leaves []cell, root int) { b.pages.take(); b.root(root) },
		"a page that is both":              func(b *builder, leaves []cell, root int) { b.pages.give(leaves[2].page()); b.root(root) },
		"a root that is free":              func(b *builder, leaves []cell, root int) { b.pages.give(root); b.root(root) },
		"a Tree that no root leads to":     func(b *builder, leaves []cell, root int) { b.root(0) },
		"a root beyond the pages":          func(b *builder, leaves []cell, root int) { b.root(12) },
		"a root far beyond the pages":      func(b *builder, leaves []cell, root int) { b.root(65535) },
		"a leaf as the root":               func(b *builder, leaves []cell, root int) { b.root(leaves[0].page()) },
		"two ways to one page":             func(b *builder, leaves []cell, root int) { b.relead(root, 1, leaves[0].page()) },
		"a way to the root":                func(b *builder, leaves []cell, root int) { b.relead(root, 1, root) },
		"a way to the map":                 func(b *builder, leaves []cell, root int) { b.relead(root, 1, 0) },
		"a way beyond the pages":           func(b *builder, leaves []cell, root int) { b.relead(root, 1, 12) },
		"a way to a free page":             func(b *builder, leaves []cell, root int) { b.relead(root, 1, 11) },
		"a page without cells": func(b *builder, leaves []cell, root int) {
			b.lay(leaves[1].page(), append([]byte{1}, make([]byte, 479)...))
		},
		"a page of noughts":                  func(b *builder, leaves []cell, root int) { b.lay(leaves[1].page(), make([]byte, 480)) },
		"a cell on another":                  func(b *builder, leaves []cell, root int) { b.shift(leaves[1].page(), 1) },
		"a cell beyond the page":             func(b *builder, leaves []cell, root int) { b.move(leaves[1].page(), 480-30) },
		"a cell at nought":                   func(b *builder, leaves []cell, root int) { b.lone(root, cell{}) },
		"a cell on the head":                 func(b *builder, leaves []cell, root int) { b.move(leaves[1].page(), headBytes-1) },
		"a cell on the slots":                func(b *builder, leaves []cell, root int) { b.move(leaves[1].page(), headBytes+1) },
		"a value of more than a hundred":     func(b *builder, leaves []cell, root int) { b.lone(root, cell{key: 1, val: b.noise(101), at: 300}) },
		"a number of a page with more bytes": func(b *builder, leaves []cell, root int) { b.pad(root) },
	} {
		b, leaves, root := sound(t)
		if e := b.tree.Check(); e != api.OK {
			t.Fatalf("Check of a sound one = %d", e)
		}
		spoil(b, leaves, root)
		if e := b.tree.Check(); e != api.ErrForm {
			t.Errorf("%s: Check = %d", name, e)
		}
	}
}

func (b *builder) rekey(no, i int, key uint64) {
	n := b.node(no)
	n.cells[i].key = key
	b.lay(no, n.image())
}

func (b *builder) twice(no int) {
	n := b.node(no)
	b.rekey(no, 1, n.cells[2].key)
}

func (b *builder) relevel(no, level int) {
	n := b.node(no)
	n.level = level
	b.lay(no, n.image())
}

func (b *builder) shorten(no, cells int) {
	n := b.node(no)
	n.cells = n.cells[:cells]
	n.cells[0].val = nil
	if size := sizeOf(n.cells); size*4 >= api.Bytes {
		b.t.Fatalf("%d bytes are a quarter", size)
	}
	b.lay(no, n.image())
}

func (b *builder) relead(no, i, to int) {
	n := b.node(no)
	n.cells[i].val = number(to)
	b.lay(no, n.image())
}

// shift: the second cell stands some bytes within the first one, but has its key and value.
func (b *builder) shift(no, by int) {
	n := b.node(no)
	n.cells[0].at = 300
	n.cells[1].at = 300 + n.cells[0].body() - by
	for i := 2; i < len(n.cells); i++ {
		n.cells[i].at = 50 * i
	}
	page := bytes.Clone(n.was)
	for _, c := range n.cells {
		lay(page, c)
	}
	b.lay(no, page)
}

func (b *builder) move(no, at int) {
	n := b.node(no)
	b.slot(n, n.cells[1].slot, at, len(n.cells[1].val))
}

// lone: one cell is the root's only one, and stands where it says.
func (b *builder) lone(no int, c cell) {
	page := make([]byte, api.Bytes)
	lay(page, c)
	page[0] = leafLevel
	page[1] = 1
	for i := b.pages.first; i < b.pages.end; i++ {
		b.pages.give(i)
	}
	setBit(b.pages.is[rootBytes:], no)
	b.lay(no, page)
	b.root(no)
}

// lay lays the cell and its slot into the page.
func lay(page []byte, c cell) {
	word := c.at<<lenBits | len(c.val)
	copy(page[headBytes+slotBytes*c.slot:], []byte{byte(word >> 8), byte(word)})
	key := make([]byte, keyBytes)
	for i := range key {
		key[i] = byte(c.key >> (56 - 8*i))
	}
	copy(page[c.at:], key)
	copy(page[c.at+keyBytes:], c.val)
}

func (b *builder) pad(no int) {
	n := b.node(no)
	for i := range n.cells {
		n.cells[i].val = append(slices.Clone(n.cells[i].val), 0)
		n.cells[i].at = 0
	}
	b.lay(no, n.image())
}

// slot lays one slot of the page as told.
func (b *builder) slot(n *node, slot, at, size int) {
	page := n.image()
	word := at<<lenBits | size
	page[headBytes+slotBytes*slot], page[headBytes+slotBytes*slot+1] = byte(word>>8), byte(word)
	b.lay(n.no, page)
}

// Promise 7.1: a page just a quarter full is none of Check's errors, and neither is a root that has less.
func TestCheckQuarter(t *testing.T) {
	b, leaves, _ := sound(t)
	n := b.node(leaves[1].page())
	n.cells = n.cells[:3]
	if size := sizeOf(n.cells); size*4 != api.Bytes {
		t.Fatalf("%d bytes", size)
	}
	if e := b.check(n); e != api.OK {
		t.Errorf("Check of a page a quarter full = %d", e)
	}
	n.cells[0].val = n.cells[0].val[1:]
	if e := b.check(n); e != api.ErrForm {
		t.Errorf("Check of a page less than a quarter full = %d", e)
	}
	b = newBuilder(t, 12, 300)
	x, _ := b.leaf(7, 0)
	b.root(x.page())
	if e := b.tree.Check(); e != api.OK {
		t.Errorf("Check of a root with one pair = %d", e)
	}
}

// W9: of pages that are none of a Tree's, each call tells ErrForm where it comes to them.
func TestErrForm(t *testing.T) {
	b, leaves, root := sound(t)
	b.relevel(leaves[1].page(), 2)
	mid := leaves[1].key
	if v, is, e := b.tree.Get(mid); v != nil || is || e != api.ErrForm {
		t.Errorf("Get = %q, %v, %d", v, is, e)
	}
	if _, is, e := b.tree.Get(0); !is || e != api.OK {
		t.Errorf("Get of another leaf = %v, %d", is, e)
	}
	if n, e := b.tree.Len(); n != 0 || e != api.ErrForm {
		t.Errorf("Len = %d, %d", n, e)
	}
	if e := b.store.Begin(); e != api.OK {
		t.Fatal(e)
	}
	if e := b.tree.Put(mid, nil); e != api.ErrForm {
		t.Errorf("Put = %d", e)
	}
	if is, e := b.tree.Del(mid); is || e != api.ErrForm {
		t.Errorf("Del = %v, %d", is, e)
	}
	if e := b.store.Abort(); e != api.OK {
		t.Fatal(e)
	}
	n := 0
	for range b.tree.Range(0, math.MaxUint64) {
		n++
	}
	if n != 4 {
		t.Errorf("Range tells %d pairs ahead of the spoilt page", n)
	}
	for what, spoil := range map[string]func(b *builder){
		"two ways to one page": func(b *builder) { b.relead(root, 1, leaves[0].page()) },
		"a page that is free":  func(b *builder) { b.pages.give(leaves[1].page()); b.root(root) },
	} {
		b, _, _ := sound(t)
		spoil(b)
		if v, is, e := b.tree.Get(mid); v != nil || is || e != api.ErrForm {
			t.Errorf("%s: Get = %q, %v, %d", what, v, is, e)
		}
	}
	b.relevel(root, 0)
	if n, e := b.tree.Depth(); n != 0 || e != api.ErrForm {
		t.Errorf("Depth = %d, %d", n, e)
	}
}

// Promise 7.1: Range rises, also if a page has a key of the next one.
func TestRangeRises(t *testing.T) {
	b, leaves, _ := sound(t)
	b.rekey(leaves[0].page(), 3, leaves[1].key)
	for _, hi := range []uint64{leaves[1].key, math.MaxUint64} {
		last, n := uint64(0), 0
		for k := range b.tree.Range(0, hi) {
			if n > 0 && k <= last {
				t.Errorf("Range tells %d behind %d", k, last)
			}
			last = k
			n++
		}
	}
}

// W9: where a Del would leave a page without pairs, as no Tree has such ways to it, it is ErrForm, and nothing is done.
func TestErrFormOfDel(t *testing.T) {
	b := newBuilder(t, 12, 300)
	lone, next := b.leaf(0, 5)
	one, next := b.leaf(next, same(30, 4)...)
	two, _ := b.leaf(next, same(30, 4)...)
	left, right := b.page(2, []cell{lone}), b.page(2, []cell{one, two})
	b.root(b.page(3, []cell{leadTo(0, left), leadTo(one.key, right)}))
	if e := b.store.Begin(); e != api.OK {
		t.Fatal(e)
	}
	if is, e := b.tree.Del(0); is || e != api.ErrForm {
		t.Errorf("Del = %v, %d", is, e)
	}
	if n, e := b.tree.Len(); n != 9 || e != api.OK {
		t.Errorf("Len = %d, %d", n, e)
	}
}

// Promise 7.1: ErrFull, if no page is free, whatever it is needed for.
func TestNoPage(t *testing.T) {
	full := func(b *builder) {
		t.Helper()
		for ok := true; ok; {
			_, ok = b.pages.take()
		}
		b.root(b.pages.root())
		if n := b.free(); n != 0 {
			t.Fatalf("%d pages are free", n)
		}
	}
	put := func(what string, b *builder, key uint64) {
		t.Helper()
		if e := b.store.Begin(); e != api.OK {
			t.Fatal(e)
		}
		if e := b.tree.Put(key, b.noise(40)); e != api.ErrFull {
			t.Errorf("%s: Put = %d", what, e)
		}
		if e := b.store.Commit(); e != api.OK {
			t.Fatal(e)
		}
	}
	b := newBuilder(t, 8, 300)
	full(b)
	put("an empty Tree", b, 3)
	b = newBuilder(t, 8, 300)
	x, _ := b.leaf(0, same(37, 10)...)
	b.root(x.page())
	full(b)
	put("a root", b, 1)
	b = newBuilder(t, 8, 300)
	x, next := b.leaf(0, same(37, 10)...)
	y, _ := b.leaf(next, same(37, 10)...)
	b.root(b.page(2, []cell{x, y}))
	full(b)
	put("a leaf", b, 1)
	if n, e := b.tree.Len(); n != 20 || e != api.OK {
		t.Errorf("Len = %d, %d", n, e)
	}
}

// Promise 7.4: of pages of each level that both lead to both of the level below there are more ways than could ever be gone; every call ends.
func TestManyWays(t *testing.T) {
	b := newBuilder(t, 500, 1000)
	one := b.page(leafLevel, []cell{{key: 1, slot: noSlot}})
	two := b.page(leafLevel, []cell{{key: 1 << 60, slot: noSlot}})
	for level := 2; level < 200; level++ {
		cells := []cell{leadTo(0, one), leadTo(1<<60-uint64(level)<<40, two)}
		one, two = b.page(level, cells), b.page(level, cells)
	}
	b.root(b.page(200, []cell{leadTo(0, one), leadTo(1<<61, two)}))
	if e := b.tree.Check(); e != api.ErrForm {
		t.Errorf("Check = %d", e)
	}
	if n, e := b.tree.Depth(); n != 200 || e != api.OK {
		t.Errorf("Depth = %d, %d", n, e)
	}
	last := uint64(0)
	for k := range b.tree.Range(0, math.MaxUint64) {
		if k <= last {
			t.Fatalf("Range tells %d behind %d", k, last)
		}
		last = k
	}
	if _, e := b.tree.Len(); e != api.OK {
		t.Errorf("Len = %d", e)
	}
	if e := b.store.Begin(); e != api.OK {
		t.Fatal(e)
	}
	b.tree.Del(1 << 60)
	b.tree.Put(1<<60, nil)
	if e := b.store.Abort(); e != api.OK {
		t.Fatal(e)
	}
}
