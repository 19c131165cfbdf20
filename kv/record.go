package kv

import (
	"iter"
	"slices"

	"terrier/api"
)

// record is what All tells.
type record struct {
	id    int64
	bytes []byte
}

// pair is a piece under its key.
type pair struct {
	key uint64
	val []byte
}

// piece: the one with that key, or the last one in its place; false, if there is neither.
func (b *Base) piece(key uint64) (pair, bool, api.Errno) {
	for _, k := range []uint64{key, key | lastBit} {
		val, there, e := b.tree.Get(k)
		if there || e != api.OK {
			return pair{key: k, val: val}, there, e
		}
	}
	return pair{}, false, api.OK
}

// read puts one record together; ErrForm, if it is not whole.
func (b *Base) read(first uint64) ([]byte, bool, api.Errno) {
	var rec []byte
	for key := first; ; key += nextPiece {
		p, there, e := b.piece(key)
		switch {
		case e != api.OK:
			return nil, false, e
		case !there && key == first:
			return nil, false, api.OK
		case !there || !isPiece(p.key, p.val):
			return nil, false, api.ErrForm
		}
		rec = append(rec, p.val...)
		if isLast(p.key) {
			return rec, true, api.OK
		}
	}
}

// replace: the record is rec. What goes goes first, so that its pages are free for what comes.
func (b *Base) replace(first uint64, rec []byte) api.Errno {
	var stay []uint64
	for key := range pieces(first, rec) {
		stay = append(stay, key)
	}
	if _, e := b.drop(first, stay); e != api.OK {
		return e
	}
	for key, val := range pieces(first, rec) {
		if e := b.tree.Put(key, val); e != api.OK {
			return e
		}
	}
	return api.OK
}

// drop deletes the pieces of a record but those that stay, also if it is not whole. Was there one?
func (b *Base) drop(first uint64, stay []uint64) (bool, api.Errno) {
	var gone []uint64
	for key := range b.tree.Range(first, first|placeMask) {
		if !slices.Contains(stay, key) {
			gone = append(gone, key)
		}
	}
	// An error of the disk ends a Range, which cannot tell it. But from then on every call of the Tree does.
	_, was, e := b.piece(first)
	if e != api.OK {
		return false, e
	}
	for _, key := range gone {
		if _, e := b.tree.Del(key); e != api.OK {
			return false, e
		}
	}
	return was, api.OK
}

// list: the records of a kind.
func (b *Base) list(kind int) []record {
	var l []record
	for first, rec := range b.ofKind(kind, new(api.Errno)) {
		l = append(l, record{id: idOf(first), bytes: rec})
	}
	return l
}

func (b *Base) ofKind(kind int, e *api.Errno) iter.Seq2[uint64, []byte] {
	lo := firstKey(kind, 0)
	return b.records(lo, lo|kindMask, e)
}

// records: those whose keys are from lo to hi, put together, each under its first key, until an error, which e then is; ErrForm, if one is not whole.
func (b *Base) records(lo, hi uint64, e *api.Errno) iter.Seq2[uint64, []byte] {
	return func(yield func(uint64, []byte) bool) {
		var first, next uint64
		var rec []byte
		begun := false
		for key, val := range b.tree.Range(lo, hi) {
			if !begun {
				first, next, rec = key&^placeMask, key&^placeMask, nil
			}
			if key&^lastBit != next || !isPiece(key, val) {
				*e = api.ErrForm
				return
			}
			rec = append(rec, val...)
			next += nextPiece
			begun = !isLast(key)
			if !begun && !yield(first, rec) {
				return
			}
		}
		// An error ends a Range, which cannot tell it. Len goes all ways that the Range went, and can.
		if _, *e = b.tree.Len(); *e == api.OK && begun {
			*e = api.ErrForm
		}
	}
}
