// Package sum is layer 1: check sums of bytes: see shared/doc/01-sum.md.
package sum

import "marl/api"

// ahead holds what four bits are worth once they have been moved out. Four and not eight, so that the table stays a short one.
var ahead = [16]uint32{
	0x00000000, 0x1db71064, 0x3b6e20c8, 0x26d930ac, 0x76dc4190, 0x6b6b51f4, 0x4db26158, 0x5005713c,
	0xedb88320, 0xf00f9344, 0xd6d6a3e8, 0xcb61b38c, 0x9b64c2b0, 0x86d3d2d4, 0xa00ae278, 0xbdbdf21c,
}

// sumBytes is how many bytes a sum takes behind what it is of.
const sumBytes = 4

// Sum answers the sum of bytes.
func Sum(b []byte) uint32 { return More(0, b) }

// More answers the sum of some bytes that have this sum, with b behind them.
func More(sum uint32, b []byte) uint32 {
	// A sum is told turned; the work goes on with what it was ahead of that.
	c := ^sum
	for _, x := range b {
		c = turn(c, x)
	}
	return ^c
}

func turn(c uint32, x byte) uint32 {
	c ^= uint32(x)
	for range 2 {
		c = ahead[c&15] ^ c>>4
	}
	return c
}

// Seal answers the bytes with their sum.
func Seal(b []byte) []byte {
	s := make([]byte, len(b)+sumBytes)
	copy(s, b)
	put(s[len(b):], Sum(b))
	return s
}

// Open answers the bytes ahead of their sum.
func Open(b []byte) ([]byte, api.Errno) {
	n := len(b) - sumBytes
	if n < 0 {
		return nil, api.ErrForm
	}
	if get(b[n:]) != Sum(b[:n]) {
		return nil, api.ErrSum
	}
	// No room behind, so that nothing of the argument could be reached even if the copy were forgotten by an append.
	opened := b[0:n:n]
	out := make([]byte, n)
	copy(out, opened)
	return out, api.OK
}

// Parts answers the sum of all lists, one behind the other.
func Parts(l [][]byte) uint32 {
	c := Sum(nil)
	for _, b := range l {
		c = More(c, b)
	}
	return c
}

func put(to []byte, v uint32) {
	for i := range sumBytes {
		to[i] = byte(v >> (8 * i))
	}
}

func get(b []byte) uint32 {
	var v uint32
	for i := range sumBytes {
		v |= uint32(b[i]) << (8 * i)
	}
	return v
}
