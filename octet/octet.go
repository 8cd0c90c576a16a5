// Package octet is layer 1: sets of bytes. See shared/doc/01-octet.md.
package octet

import (
	"iter"
	"math/bits"

	"trawl/api"
)

const (
	wordBits = 64
	// beyond is the number behind the greatest byte: it says that there is no byte.
	beyond = 256
)

// Of answers the set of just these bytes.
func Of(bytes ...byte) api.Set {
	var s api.Set
	for _, b := range bytes {
		s[b/wordBits] |= 1 << (b % wordBits)
	}
	return s
}

// Range answers the bytes from lo to hi, both with it; none, if hi is below lo.
func Range(lo, hi byte) api.Set {
	var s api.Set
	// An int counts, since a byte would never get past a hi of 255.
	for b := int(lo); b <= int(hi); b++ {
		s[b/wordBits] |= 1 << (b % wordBits)
	}
	return s
}

// Has tells whether the byte is in the set.
func Has(s api.Set, b byte) bool {
	return s[b/wordBits]>>(b%wordBits)&1 == 1
}

// Join answers the bytes that are in at least one of the sets; of no set none.
func Join(sets ...api.Set) api.Set {
	var joined api.Set
	for _, s := range sets {
		for i, word := range s {
			joined[i] |= word
		}
	}
	return joined
}

// Meet answers the bytes that are in all of the sets; of no set all bytes.
func Meet(sets ...api.Set) api.Set {
	met := Not(api.Set{})
	for _, s := range sets {
		for i, word := range s {
			met[i] &= word
		}
	}
	return met
}

// Less answers the bytes of a that are not in b.
func Less(a, b api.Set) api.Set {
	return Meet(a, Not(b))
}

// Not answers all bytes that are not in the set.
func Not(s api.Set) api.Set {
	for i := range s {
		s[i] = ^s[i]
	}
	return s
}

// Count answers how many bytes are in the set.
func Count(s api.Set) int {
	n := 0
	for _, word := range s {
		n += bits.OnesCount64(word)
	}
	return n
}

// First answers the least byte of the set, and true; 0 and false, if it has none.
func First(s api.Set) (byte, bool) {
	b := next(s, 0)
	if b == beyond {
		return 0, false
	}
	return byte(b), true
}

// Rows goes over the rows of the set, rising: the first and the last byte of each.
func Rows(s api.Set) iter.Seq2[byte, byte] {
	return func(yield func(byte, byte) bool) {
		gaps := Not(s)
		for lo := next(s, 0); lo != beyond; {
			gap := next(gaps, lo)
			if !yield(byte(lo), byte(gap-1)) {
				return
			}
			lo = next(s, gap)
		}
	}
}

// next answers the least byte of the set that is at or behind from; beyond, if there is none.
func next(s api.Set, from int) int {
	for from < beyond {
		if rest := s[from/wordBits] >> (from % wordBits); rest != 0 {
			return from + bits.TrailingZeros64(rest)
		}
		from += wordBits - from%wordBits
	}
	return beyond
}
