package tree

import (
	"bytes"

	"terrier/api"
)

const rootBytes = numBytes

// pageMap is what the first pages have: the root's number (0: the Tree is empty), and a bit for each page that the Tree has taken.
type pageMap struct {
	was, is    []byte
	first, end int // the pages that it can take, from and up to
}

// mapPages: how many pages the map of so many takes.
func mapPages(pages int) int {
	size := rootBytes + (pages+7)/8
	return (size + api.Bytes - 1) / api.Bytes
}

func (t *Tree) readMap() (*pageMap, api.Errno) {
	pages := t.store.Pages()
	m := &pageMap{first: mapPages(pages), end: pages}
	for no := range m.first {
		b, e := t.store.Read(no)
		if e != api.OK {
			return nil, e
		}
		m.was = append(m.was, b...)
	}
	m.is = bytes.Clone(m.was)
	return m, api.OK
}

func (t *Tree) writeMap(m *pageMap) api.Errno {
	for no := range m.first {
		from, to := no*api.Bytes, (no+1)*api.Bytes
		if e := t.write(no, m.was[from:to], m.is[from:to]); e != api.OK {
			return e
		}
	}
	return api.OK
}

func (m *pageMap) root() int {
	return int(m.is[0])<<8 | int(m.is[1])
}

func (m *pageMap) setRoot(no int) {
	copy(m.is, number(no))
}

func (m *pageMap) used(no int) bool {
	return hasBit(m.is[rootBytes:], no)
}

// take: a page that was free; false, if none is.
func (m *pageMap) take() (int, bool) {
	for no := m.first; no < m.end; no++ {
		if !m.used(no) {
			setBit(m.is[rootBytes:], no)
			return no, true
		}
	}
	return 0, false
}

// give: the page is free.
func (m *pageMap) give(no int) {
	m.is[rootBytes+no/8] &^= 1 << (no % 8)
}

// owns: is it a page that the Tree has taken?
func (m *pageMap) owns(no int) bool {
	return no >= m.first && no < m.end && m.used(no)
}
