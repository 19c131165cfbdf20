package tree

import (
	"bytes"
	"cmp"
	"iter"
	"math/bits"
	"slices"

	"terrier/api"
)

// A page has its level, a bit for each of its slots that is used, the slots, and behind them, wherever there was room, the cells. A slot tells where a cell stands, and the bytes of its value.
const (
	keyBytes  = 8
	slotBytes = 2
	maskBytes = 6 // no page has room for more than 47 cells
	headBytes = 1 + maskBytes
	roomBytes = api.Bytes - headBytes // for slots and cells
	numBytes  = 2                     // of a page's number
	lenBits   = 7                     // of a slot, for the bytes of a value
	noSlot    = -1
	leafLevel = 1
	anyLevel  = 0
	nearBytes = 10 // what lies between two runs and costs less, in the log, than a Write of its own
)

// cell is a pair in a page: a key and its value; above the leaves the least key that a page may have, and its number.
type cell struct {
	key  uint64
	val  []byte
	slot int // noSlot: it has none yet
	at   int // where it stands; 0: nowhere yet
}

// node is a page of the Tree.
type node struct {
	no    int
	level int    // leafLevel, or one above that of the pages that it leads to
	cells []cell // by rising keys
	was   []byte // the page as the Store has it
}

// body: the bytes where the cell stands.
func (c cell) body() int {
	return keyBytes + len(c.val)
}

// size: what the cell takes of a page.
func (c cell) size() int {
	return slotBytes + c.body()
}

// page: the number of the page that it leads to.
func (c cell) page() int {
	return int(c.val[0])<<8 | int(c.val[1])
}

// leadTo: the cell above a page.
func leadTo(key uint64, no int) cell {
	return cell{key: key, val: number(no), slot: noSlot}
}

func number(no int) []byte {
	return []byte{byte(no >> 8), byte(no)}
}

func sizeOf(cells []cell) int {
	n := 0
	for _, c := range cells {
		n += c.size()
	}
	return n
}

// moved: the cells as they go to another page.
func moved(cells []cell) []cell {
	out := slices.Clone(cells)
	for i := range out {
		out[i].slot, out[i].at = noSlot, 0
	}
	return out
}

// find: where the key is among the cells, or would be.
func (n *node) find(key uint64) (int, bool) {
	return slices.BinarySearchFunc(n.cells, key, func(c cell, key uint64) int { return cmp.Compare(c.key, key) })
}

// lead: which cell leads to the key; false, if all cells lead to greater ones.
func (n *node) lead(key uint64) (int, bool) {
	i, found := n.find(key)
	if !found {
		i--
	}
	return i, i >= 0
}

// put: the leaf has the pair. A value that is no longer than the one ahead of it stands where that one did.
func (n *node) put(key uint64, v []byte) {
	i, found := n.find(key)
	if !found {
		n.cells = slices.Insert(n.cells, i, cell{key: key, val: v, slot: noSlot})
		return
	}
	c := &n.cells[i]
	if len(v) > len(c.val) {
		c.at = 0
	}
	c.val = v
}

// del: the leaf has no such pair. Had it one?
func (n *node) del(key uint64) bool {
	i, found := n.find(key)
	if found {
		n.cells = slices.Delete(n.cells, i, i+1)
	}
	return found
}

// parse: the page as a node; false, if the Tree writes no such page.
func parse(no int, page []byte) (*node, bool) {
	n := &node{no: no, level: int(page[0]), was: page}
	n.cells = make([]cell, 0, countBits(page[1:headBytes]))
	for slot := range 8 * maskBytes {
		if !hasBit(page[1:], slot) {
			continue
		}
		c, ok := cellIn(page, slot)
		if !ok {
			return nil, false
		}
		n.cells = append(n.cells, c)
	}
	if n.level < leafLevel || len(n.cells) == 0 {
		return nil, false
	}
	if slices.ContainsFunc(gapsBeside(n.cells), func(g gap) bool { return g.from > g.to }) {
		return nil, false // one cell stands on another, or on a slot
	}
	slices.SortFunc(n.cells, func(a, b cell) int { return cmp.Compare(a.key, b.key) })
	for i := 1; i < len(n.cells); i++ {
		if n.cells[i-1].key == n.cells[i].key {
			return nil, false
		}
	}
	return n, n.level == leafLevel || leadsOn(n.cells)
}

func cellIn(page []byte, slot int) (cell, bool) {
	at := headBytes + slotBytes*slot
	word := int(page[at])<<8 | int(page[at+1])
	at = word >> lenBits
	size := word & (1<<lenBits - 1)
	if size > mostValue || at < headBytes || at+keyBytes+size > api.Bytes {
		return cell{}, false
	}
	c := cell{val: page[at+keyBytes : at+keyBytes+size], slot: slot, at: at}
	for _, x := range page[at : at+keyBytes] {
		c.key = c.key<<8 | uint64(x)
	}
	return c, true
}

// leadsOn: has each cell the number of a page, another one each?
func leadsOn(cells []cell) bool {
	nos := make([]int, 0, len(cells))
	for _, c := range cells {
		if len(c.val) != numBytes {
			return false
		}
		nos = append(nos, c.page())
	}
	slices.Sort(nos)
	return len(slices.Compact(nos)) == len(cells)
}

// image: the page with the cells as they are now. What lies between them stays as it was.
func (n *node) image() []byte {
	page := bytes.Clone(n.was)
	page[0] = byte(n.level)
	clear(page[1:headBytes])
	for _, c := range settled(n.cells) {
		setBit(page[1:], c.slot)
		word := c.at<<lenBits | len(c.val)
		at := headBytes + slotBytes*c.slot
		page[at], page[at+1] = byte(word>>8), byte(word)
		for i := range keyBytes {
			page[c.at+i] = byte(c.key >> (8 * (keyBytes - 1 - i)))
		}
		copy(page[c.at+keyBytes:], c.val)
	}
	return page
}

// gap is room of a page where nothing stands.
type gap struct{ from, to int }

// settled: the cells, each with a slot and a place. Those that have them keep them, if the others find room beside them.
func settled(cells []cell) []cell {
	out, ok := beside(cells)
	if !ok {
		out, _ = beside(moved(cells))
	}
	return out
}

// beside places the cells that stand nowhere beside those that stand, next to each other, if they can; false, if there is no room for one of them in one piece.
func beside(cells []cell) ([]cell, bool) {
	out := slotted(cells)
	gaps := gapsBeside(out)
	size := 0
	for _, c := range out {
		if c.at == 0 {
			size += c.body()
		}
	}
	if g := tightest(gaps, size); g >= 0 {
		gaps = gaps[g : g+1]
	}
	for i := range out {
		c := &out[i]
		if c.at > 0 {
			continue
		}
		g := tightest(gaps, c.body())
		if g < 0 {
			return nil, false
		}
		gaps[g].to -= c.body()
		c.at = gaps[g].to
	}
	return out, true
}

// slotted: the cells, each with a slot. Those that stood where a slot is now stand nowhere.
func slotted(cells []cell) []cell {
	out := slices.Clone(cells)
	mask := uint64(0)
	for _, c := range out {
		if c.slot != noSlot {
			mask |= 1 << c.slot
		}
	}
	for i := range out {
		if out[i].slot == noSlot {
			out[i].slot = bits.TrailingZeros64(^mask)
			mask |= 1 << out[i].slot
		}
	}
	end := slotsEnd(out)
	for i := range out {
		if out[i].at < end {
			out[i].at = 0
		}
	}
	return out
}

// slotsEnd: where the slots end.
func slotsEnd(cells []cell) int {
	end := headBytes
	for _, c := range cells {
		end = max(end, headBytes+slotBytes*(c.slot+1))
	}
	return end
}

// gapsBeside: the gaps between the slots, the cells that stand, and the page's end.
func gapsBeside(cells []cell) []gap {
	stand := slices.DeleteFunc(slices.Clone(cells), func(c cell) bool { return c.at == 0 })
	slices.SortFunc(stand, func(a, b cell) int { return cmp.Compare(a.at, b.at) })
	end := slotsEnd(cells)
	gaps := make([]gap, 0, len(stand)+1)
	for _, c := range stand {
		gaps = append(gaps, gap{from: end, to: c.at})
		end = c.at + c.body()
	}
	return append(gaps, gap{from: end, to: api.Bytes})
}

// tightest: the gap that has least room, but so many bytes; -1, if none has them.
func tightest(gaps []gap, size int) int {
	best := -1
	for i, g := range gaps {
		room := g.to - g.from
		if room >= size && (best < 0 || room <= gaps[best].to-gaps[best].from) {
			best = i
		}
	}
	return best
}

// price: how many bytes of a page are to be written for the cells, next to all.
func price(cells []cell) int {
	if _, ok := beside(cells); !ok {
		cells = moved(cells)
	}
	return sizeOf(slices.DeleteFunc(slices.Clone(cells), func(c cell) bool { return c.at > 0 }))
}

// runs: from where up to where the pages differ. What is near is one run.
func runs(was, is []byte) iter.Seq2[int, int] {
	return func(yield func(int, int) bool) {
		from, to := 0, 0
		for i := range is {
			if was[i] == is[i] {
				continue
			}
			if to > 0 && i-to > nearBytes {
				if !yield(from, to) {
					return
				}
				to = 0
			}
			if to == 0 {
				from = i
			}
			to = i + 1
		}
		if to > 0 {
			yield(from, to)
		}
	}
}

func hasBit(b []byte, i int) bool {
	return b[i/8]>>(i%8)&1 == 1
}

func setBit(b []byte, i int) {
	b[i/8] |= 1 << (i % 8)
}

func countBits(b []byte) int {
	n := 0
	for _, x := range b {
		n += bits.OnesCount8(x)
	}
	return n
}
