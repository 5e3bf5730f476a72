package patch

import (
	"bytes"
	"iter"
)

// base is the base of the hashes. It is odd, or else the first bytes of a long block would have no effect on its hash.
const base uint64 = 0x9e3779b97f4a7c15

// hashes yields the offsets of all blocks of a size, in ascending order, with their hashes.
func hashes(b []byte, size int) iter.Seq2[int, uint64] {
	return func(yield func(int, uint64) bool) {
		if size < 1 || size > len(b) {
			return
		}
		// The hash is a number with the bytes as its digits, so that the next one follows from it in a few steps.
		hash, highest := uint64(b[0]), uint64(1)
		for _, digit := range b[1:size] {
			hash = hash*base + uint64(digit)
			highest *= base
		}
		for off := 0; yield(off, hash) && off+size < len(b); off++ {
			hash = (hash-uint64(b[off])*highest)*base + uint64(b[off+size])
		}
	}
}

// finder returns a function that finds the smallest offset at which a block of a size, with its hash, occurs in a file, or -1.
func finder(file []byte, size int) func([]byte, uint64) int {
	first := map[uint64]int{}
	for off, hash := range hashes(file, size) {
		if _, ok := first[hash]; !ok {
			first[hash] = off
		}
	}
	return func(block []byte, hash uint64) int {
		off, ok := first[hash]
		if !ok {
			return -1
		}
		// Other blocks may have the same hash, so the block may occur later, or not at all.
		i := bytes.Index(file[off:], block)
		if i < 0 {
			return -1
		}
		return off + i
	}
}

// common returns the number of bytes with which both of two files begin.
func common(a, b []byte) int {
	n := min(len(a), len(b))
	for i := range n {
		if a[i] != b[i] {
			return i
		}
	}
	return n
}
