package kv

import (
	"iter"

	"terrier/api"
)

// A piece's key has, from the top: the kind, the record's number, how many pieces stand ahead of this one, and whether it is the last one. So a record that has lost a piece, be it the last one, is told from a whole one, and no byte of a value is taken for that.
const (
	mostKind   = 255
	mostID     = 1 << 40
	idBits     = 41 // 2^40 is a number too
	placeBits  = 15
	kindShift  = idBits + placeBits
	placeMask  = 1<<placeBits - 1
	kindMask   = 1<<kindShift - 1
	lastBit    = 1
	nextPiece  = 2   // from a piece's key to the next one's
	pieceBytes = 100 // what a value of the Tree has at most
	lastPlace  = nextPiece * (api.MaxRec/pieceBytes - 1)
)

func isKind(kind int) bool {
	return kind >= 0 && kind <= mostKind
}

func isName(kind int, id int64) bool {
	return isKind(kind) && id >= 0 && id <= mostID
}

// firstKey: the key of the record's first piece, where it is not the last one too.
func firstKey(kind int, id int64) uint64 {
	return uint64(kind)<<kindShift | uint64(id)<<placeBits
}

// idOf: the number of the record that has the key.
func idOf(key uint64) int64 {
	return int64((key & kindMask) >> placeBits)
}

func isLast(key uint64) bool {
	return key&lastBit != 0
}

// pieces cuts a record: each piece, under its key.
func pieces(first uint64, rec []byte) iter.Seq2[uint64, []byte] {
	return func(yield func(uint64, []byte) bool) {
		key, left := first, rec
		for len(left) > pieceBytes {
			if !yield(key, left[:pieceBytes]) {
				return
			}
			key, left = key+nextPiece, left[pieceBytes:]
		}
		yield(key|lastBit, left)
	}
}

// isPiece: is there a record that has such a piece? All but the last one are full; the last one is empty only if it is the first too.
func isPiece(key uint64, val []byte) bool {
	place := key & placeMask &^ lastBit
	switch {
	case idOf(key) > mostID || place > lastPlace:
		return false
	case isLast(key):
		return place == 0 || len(val) > 0
	default:
		return len(val) == pieceBytes
	}
}
