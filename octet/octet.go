// Package octet is layer 1: see shared/doc/01-octet.md.
package octet

import "iter"

// A number of 64 bits has no more bytes than these.
const most = 8

// Get is the number of some bytes.
func Get(s string, at, n int) (uint64, bool) {
	// The place is held against what is left of s: at+n might go round.
	if !fits(n) || at < 0 || at > len(s)-n {
		return 0, false
	}
	var v uint64
	for i := range places(at, n) {
		v = v<<8 | uint64(s[i])
	}
	return v, true
}

// Put is the bytes of a number.
func Put(v uint64, n int) string {
	if !fits(n) {
		return ""
	}
	b := make([]byte, n)
	for i := range places(0, n) {
		// The lowest byte is shifted out first, and stands last.
		b[n-1-i] = byte(v)
		v >>= 8
	}
	return string(b)
}

func fits(n int) bool { return 1 <= n && n <= most }

// places tells n places, from at on.
func places(at, n int) iter.Seq[int] {
	return func(yield func(int) bool) {
		for i := range n {
			if !yield(at + i) {
				return
			}
		}
	}
}
