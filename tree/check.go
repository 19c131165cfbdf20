package tree

import (
	"math"

	"terrier/api"
)

// checker goes through all pages of a Tree.
type checker struct {
	tree  *Tree
	pages *pageMap
	seen  []bool // by pages' numbers
}

// Check: ErrForm, unless keys rise, all ways are of one length, pages are full enough, and each page is free or the Tree's own.
func (t *Tree) Check() api.Errno {
	m, e := t.readMap()
	if e != api.OK {
		return e
	}
	c := checker{tree: t, pages: m, seen: make([]bool, m.end)}
	if m.root() != 0 {
		if e := c.root(); e != api.OK {
			return e
		}
	}
	for no := m.first; no < m.end; no++ {
		if m.used(no) != c.seen[no] {
			return api.ErrForm
		}
	}
	return api.OK
}

func (c *checker) root() api.Errno {
	n, e := c.tree.load(c.pages, c.pages.root(), anyLevel)
	if e != api.OK {
		return e
	}
	return c.below(n, 0, math.MaxUint64)
}

// below: is the page sound, and all below it, with keys from lo to hi? It ends: no page is gone through twice, as no two ways have a key in common.
func (c *checker) below(n *node, lo, hi uint64) api.Errno {
	c.seen[n.no] = true
	first, last := n.cells[0].key, n.cells[len(n.cells)-1].key
	if first < lo || last > hi {
		return api.ErrForm
	}
	if n.level == leafLevel {
		return api.OK
	}
	if first != lo {
		return api.ErrForm // keys ahead of the first one would have no page
	}
	for i, x := range n.cells {
		up := hi
		if i+1 < len(n.cells) {
			up = n.cells[i+1].key - 1
		}
		if e := c.next(x.page(), n.level-1, x.key, up); e != api.OK {
			return e
		}
	}
	return api.OK
}

// next: is a page but the root sound, and all below it?
func (c *checker) next(no, level int, lo, hi uint64) api.Errno {
	n, e := c.tree.load(c.pages, no, level)
	if e != api.OK {
		return e
	}
	if sizeOf(n.cells) < leastBytes {
		return api.ErrForm
	}
	return c.below(n, lo, hi)
}
