package tree

import (
	"math"
	"slices"

	"terrier/api"
)

const (
	leastBytes = api.Bytes / 4 // of the cells of each page but the root
	partLeast  = 144           // of either part of a page; more than leastBytes, so that not the next Del brings the parts together again
	joinMost   = 350           // of two pages that become one; of more, parted next to the middle, each half has leastBytes
)

// step is a page of a way down, and which of its cells leads on.
type step struct {
	node *node
	lead int
}

// way is the pages from the root down to a leaf.
type way []step

// next: the least key behind those of the way's leaf; false, if it is the last leaf.
func (w way) next() (uint64, bool) {
	for _, s := range slices.Backward(w[:len(w)-1]) {
		if s.lead+1 < len(s.node.cells) {
			return s.node.cells[s.lead+1].key, true
		}
	}
	return 0, false
}

// change is what a Put or a Del does. All of it is found ahead of the first Write, so that want of pages leaves all as it was.
type change struct {
	tree   *Tree
	pages  *pageMap
	way    way
	beside []*node // the pages beside the way that change
}

// load: the page as a node of that level.
func (t *Tree) load(m *pageMap, no, level int) (*node, api.Errno) {
	if !m.owns(no) {
		return nil, api.ErrForm
	}
	b, e := t.store.Read(no)
	if e != api.OK {
		return nil, e
	}
	n, ok := parse(no, b)
	if !ok || level != anyLevel && n.level != level {
		return nil, api.ErrForm
	}
	return n, api.OK
}

// goDown: the way to the leaf that has the key, if one does; no way in an empty Tree. As each level is one below that ahead of it, it ends, whatever the pages have.
func (t *Tree) goDown(key uint64) (*pageMap, way, api.Errno) {
	m, e := t.readMap()
	if e != api.OK || m.root() == 0 {
		return m, nil, e
	}
	var w way
	no, level := m.root(), anyLevel
down:
	for {
		n, e := t.load(m, no, level)
		if e != api.OK {
			return nil, nil, e
		}
		switch lead, ok := n.lead(key); {
		case n.level == leafLevel:
			w = append(w, step{node: n})
			break down
		case !ok:
			return nil, nil, api.ErrForm
		default:
			w = append(w, step{node: n, lead: lead})
			no, level = n.cells[lead].page(), n.level-1
		}
	}
	return m, w, api.OK
}

func (t *Tree) change(key uint64) (*change, api.Errno) {
	m, w, e := t.goDown(key)
	if e != api.OK {
		return nil, e
	}
	return &change{tree: t, pages: m, way: w}, api.OK
}

func (c *change) leaf() *node {
	return c.way[len(c.way)-1].node
}

// fresh: a page that was free, without cells.
func (c *change) fresh(level int) (*node, api.Errno) {
	no, ok := c.pages.take()
	if !ok {
		return nil, api.ErrFull
	}
	b, e := c.tree.store.Read(no)
	if e != api.OK {
		return nil, e
	}
	return &node{no: no, level: level, was: b}, api.OK
}

// plant: an empty Tree gets a leaf, its root.
func (c *change) plant() api.Errno {
	n, e := c.fresh(leafLevel)
	if e != api.OK {
		return e
	}
	c.way = way{{node: n}}
	c.pages.setRoot(n.no)
	return api.OK
}

// finish brings all pages into their bounds, and writes what changed.
func (c *change) finish() api.Errno {
	for i := len(c.way) - 1; i >= 0; i-- {
		if e := c.mend(i); e != api.OK {
			return e
		}
	}
	c.lower()
	return c.write()
}

// mend brings the way's page i into its bounds. By that the one above it may come out of its own.
func (c *change) mend(i int) api.Errno {
	size := sizeOf(c.way[i].node.cells)
	switch {
	case size > roomBytes && i == 0:
		if e := c.raise(); e != api.OK {
			return e
		}
		return c.part(1)
	case size > roomBytes:
		return c.part(i)
	case size < leastBytes && i > 0:
		return c.join(i)
	}
	return api.OK
}

// raise: the root gets a page above it, which is the root then.
func (c *change) raise() api.Errno {
	was := c.way[0].node
	n, e := c.fresh(was.level + 1)
	if e != api.OK {
		return e
	}
	n.cells = []cell{leadTo(0, was.no)}
	c.way = slices.Insert(c.way, 0, step{node: n})
	c.pages.setRoot(n.no)
	return api.OK
}

// lower: a root that leads to one page only gives way to that one, and a leaf without cells to none.
func (c *change) lower() {
	for len(c.way) > 1 && len(c.way[0].node.cells) == 1 {
		c.dropRoot(c.way[1].node.no)
	}
	if len(c.way) == 1 && len(c.leaf().cells) == 0 {
		c.dropRoot(0)
	}
}

// dropRoot: the root is free, and the next page of the way is the root.
func (c *change) dropRoot(next int) {
	c.pages.give(c.way[0].node.no)
	c.pages.setRoot(next)
	c.way = c.way[1:]
}

// part makes two pages of one. Those of its cells that go to the new one are such that least is to be written.
func (c *change) part(i int) api.Errno {
	n, above := c.way[i].node, c.way[i-1]
	other, e := c.fresh(n.level)
	if e != api.OK {
		return e
	}
	c.beside = append(c.beside, other)
	cut, upper := parting(n.cells)
	right := other
	if upper {
		other.cells, n.cells = moved(n.cells[cut:]), n.cells[:cut]
	} else {
		other.cells, n.cells = moved(n.cells[:cut]), n.cells[cut:]
		above.node.cells[above.lead].val = number(other.no)
		right = n
	}
	above.node.cells = slices.Insert(above.node.cells, above.lead+1, leadTo(right.cells[0].key, right.no))
	return api.OK
}

// parting: where to part the cells of a page that are too many, and whether those from there on go to the new page, or those ahead of it.
func parting(cells []cell) (cut int, upper bool) {
	all, ahead := sizeOf(cells), 0
	least := math.MaxInt
	for i := 1; i < len(cells); i++ {
		ahead += cells[i-1].size()
		behind := all - ahead
		if ahead < partLeast || behind < partLeast {
			continue
		}
		if p := behind + price(cells[:i]); p < least {
			least, cut, upper = p, i, true
		}
		if p := ahead + price(cells[i:]); p < least {
			least, cut, upper = p, i, false
		}
	}
	return cut, upper
}

// join brings a page that has too few bytes together with a neighbour: they become one page, or share their cells.
func (c *change) join(i int) api.Errno {
	n, above := c.way[i].node, c.way[i-1]
	other, at, e := c.neighbour(n.level, above)
	if e != api.OK || other == nil {
		return e
	}
	left, right, lead := n, other, above.lead
	if at < above.lead {
		left, right, lead = other, n, at
	}
	if sizeOf(left.cells)+sizeOf(right.cells) <= joinMost {
		c.way[i].node = c.unite(left, right, above.node, lead)
		return api.OK
	}
	share(left, right, above.node, lead)
	c.beside = append(c.beside, other)
	return api.OK
}

// neighbour: of the pages next to the one where the step leads to, the one that has fewer bytes, and which cell leads to it; nil, if there is none.
func (c *change) neighbour(level int, above step) (best *node, lead int, e api.Errno) {
	for _, at := range []int{above.lead - 1, above.lead + 1} {
		if at < 0 || at >= len(above.node.cells) {
			continue
		}
		n, e := c.tree.load(c.pages, above.node.cells[at].page(), level)
		if e != api.OK {
			return nil, 0, e
		}
		if best == nil || sizeOf(n.cells) < sizeOf(best.cells) {
			best, lead = n, at
		}
	}
	return best, lead, api.OK
}

// unite: one of the two pages gets all cells, the one where less is to be written; the other is free.
func (c *change) unite(left, right, above *node, lead int) *node {
	toLeft := slices.Concat(left.cells, moved(right.cells))
	toRight := slices.Concat(moved(left.cells), right.cells)
	stays, goes := left, right
	if price(toRight) < price(toLeft) {
		stays, goes = right, left
		stays.cells = toRight
	} else {
		stays.cells = toLeft
	}
	c.pages.give(goes.no)
	above.cells[lead].val = number(stays.no)
	above.cells = slices.Delete(above.cells, lead+1, lead+2)
	return stays
}

// share: each of the two gets half of the cells' bytes, or next to it.
func share(left, right, above *node, lead int) {
	all := slices.Concat(left.cells, right.cells)
	cut := middle(all)
	was := len(left.cells)
	if cut < was {
		left.cells = all[:cut]
		right.cells = slices.Concat(moved(all[cut:was]), all[was:])
	} else {
		left.cells = slices.Concat(all[:was], moved(all[was:cut]))
		right.cells = all[cut:]
	}
	above.cells[lead+1].key = right.cells[0].key
}

// middle: where the cells ahead and those behind have bytes as alike as can be.
func middle(cells []cell) int {
	all, ahead := sizeOf(cells), 0
	cut, least := 0, math.MaxInt
	for i, c := range cells {
		if apart := max(all-2*ahead, 2*ahead-all); apart < least {
			cut, least = i, apart
		}
		ahead += c.size()
	}
	return cut
}

// write writes what changed; ErrForm, if a page that stays would have no cells, as the pages have been none of a Tree's then.
func (c *change) write() api.Errno {
	nodes := c.beside
	for _, s := range c.way {
		nodes = append(nodes, s.node)
	}
	for _, n := range nodes {
		if len(n.cells) == 0 {
			return api.ErrForm
		}
	}
	for _, n := range nodes {
		if e := c.tree.write(n.no, n.was, n.image()); e != api.OK {
			return e
		}
	}
	return c.tree.writeMap(c.pages)
}

// write writes those bytes of a page that differ.
func (t *Tree) write(no int, was, is []byte) api.Errno {
	for from, to := range runs(was, is) {
		if e := t.store.Write(no, from, is[from:to]); e != api.OK {
			return e
		}
	}
	return api.OK
}
