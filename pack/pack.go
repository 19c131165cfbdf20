// Package pack writes numbers and texts as bytes, and reads them back. See chapter 1 of the document.
package pack

import (
	"bytes"
	"iter"

	"terrier/api"
)

const (
	more     = 0x80 // on each byte of a number but its last
	lastAt   = 9    // where a number's tenth byte stands; 64 bits need no further one
	sumBytes = 4
)

// Uvar: x by seven bits a byte, the lowest first.
func Uvar(x uint64) []byte {
	return appendUvar(make([]byte, 0, lastAt+1), x)
}

func appendUvar(out []byte, x uint64) []byte {
	for x >= more {
		out = append(out, byte(x)|more)
		x >>= 7
	}
	return append(out, byte(x))
}

// Var: the number that b begins with, and how many bytes it has.
func Var(b []byte) (x uint64, n int, e api.Errno) {
	for i, c := range b {
		if i == lastAt && c > 1 {
			return 0, 0, api.ErrBig
		}
		x |= uint64(c&^more) << (7 * i)
		if c >= more {
			continue
		}
		// A nought at the end would be a second way to write the same number.
		if c == 0 && i > 0 {
			return 0, 0, api.ErrForm
		}
		return x, i + 1, api.OK
	}
	return 0, 0, api.ErrTorn
}

// Int: x with its sign in the lowest bit, so that small numbers of either sign are short.
func Int(x int64) []byte {
	return Uvar(uint64(x)<<1 ^ uint64(x>>63))
}

// IntOf: the number that Int wrote at the beginning of b, and how many bytes it has.
func IntOf(b []byte) (x int64, n int, e api.Errno) {
	u, n, e := Var(b)
	return int64(u>>1) ^ -int64(u&1), n, e
}

// Join: of each part its length and it.
func Join(parts ...[]byte) []byte {
	var out []byte
	for _, p := range parts {
		out = appendUvar(out, uint64(len(p)))
		out = append(out, p...)
	}
	return out
}

// Split: the parts that Join put together.
func Split(b []byte) ([][]byte, api.Errno) {
	var out [][]byte
	for p, e := range partsOf(b) {
		if e != api.OK {
			return nil, e
		}
		out = append(out, bytes.Clone(p))
	}
	return out, api.OK
}

// partsOf tells one part after the other, each still a piece of b; an error is the last that it tells.
func partsOf(b []byte) iter.Seq2[[]byte, api.Errno] {
	return func(yield func([]byte, api.Errno) bool) {
		for left := b; len(left) > 0; {
			part, rest, e := cutPart(left)
			if !yield(part, e) || e != api.OK {
				return
			}
			left = rest
		}
	}
}

func cutPart(b []byte) (part, rest []byte, e api.Errno) {
	size, n, e := Var(b)
	if e != api.OK {
		return nil, nil, e
	}
	b = b[n:]
	// Held against each other unsigned: a size may be beyond what an int holds.
	if size > uint64(len(b)) {
		return nil, nil, api.ErrTorn
	}
	return b[:size], b[size:], api.OK
}

// crcOfHalf: what the sum turns into by each half byte. A table by whole bytes would be longer than a package-level table may be.
var crcOfHalf = [16]uint32{
	0x00000000, 0x1db71064, 0x3b6e20c8, 0x26d930ac,
	0x76dc4190, 0x6b6b51f4, 0x4db26158, 0x5005713c,
	0xedb88320, 0xf00f9344, 0xd6d6a3e8, 0xcb61b38c,
	0x9b64c2b0, 0x86d3d2d4, 0xa00ae278, 0xbdbdf21c,
}

// CRC: the CRC-32 of IEEE 802.3.
func CRC(b []byte) uint32 {
	sum := ^uint32(0)
	for _, c := range b {
		sum ^= uint32(c)
		sum = sum>>4 ^ crcOfHalf[sum&15]
		sum = sum>>4 ^ crcOfHalf[sum&15]
	}
	return ^sum
}

// Seal: b and its sum, the highest byte first.
func Seal(b []byte) []byte {
	sum := CRC(b)
	out := make([]byte, 0, len(b)+sumBytes)
	out = append(out, b...)
	return append(out, byte(sum>>24), byte(sum>>16), byte(sum>>8), byte(sum))
}

// Open: what was sealed.
func Open(b []byte) ([]byte, api.Errno) {
	if len(b) < sumBytes {
		return nil, api.ErrTorn
	}
	body, tail := b[:len(b)-sumBytes], b[len(b)-sumBytes:]
	sum := uint32(tail[0])<<24 | uint32(tail[1])<<16 | uint32(tail[2])<<8 | uint32(tail[3])
	if CRC(body) != sum {
		return nil, api.ErrForm
	}
	return bytes.Clone(body), api.OK
}
