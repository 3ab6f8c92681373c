// Package ram: words.
package ram

import "paddock/api"

// end stands in a chain in place of the address behind the last one.
const end = -1

// New words of so many pages: all are 0.
func New(pages int) ([]int, api.Errno) {
	if pages < 0 || pages > api.MaxPages {
		return nil, api.ErrRange
	}
	return make([]int, pages*api.PageWords), api.OK
}

// Load a word.
func Load(w []int, at int) (int, api.Errno) {
	if !isAddress(w, at) {
		return 0, api.ErrRange
	}
	return w[at], api.OK
}

// Store a word.
func Store(w []int, at, v int) ([]int, api.Errno) {
	if !isAddress(w, at) {
		return nil, api.ErrRange
	}
	l := clone(w)
	l[at] = v
	return l, api.OK
}

// Move so many words from an address to another one: as they were ahead of it.
func Move(w []int, to, from, n int) ([]int, api.Errno) {
	if n < 0 || !areThere(w, to, n) || !areThere(w, from, n) {
		return nil, api.ErrRange
	}
	l := clone(w)
	// The old list is read and the new one written, so words that overlap do not matter.
	for i := range n {
		l[to+i] = w[from+i]
	}
	return l, api.OK
}

// Chain objects of a size, from an address on: each one's first word is the address of the next one, the last one's -1.
func Chain(w []int, at, size, n int) ([]int, api.Errno) {
	if size < 1 || size > api.MaxObject || n < 1 || n > len(w) {
		return nil, api.ErrRange
	}
	// Both factors are small by now: the product can't leave its bounds.
	if !areThere(w, at, size*n) {
		return nil, api.ErrRange
	}
	l := clone(w)
	last := at + size*(n-1)
	for a := at; a < last; a += size {
		l[a] = a + size
	}
	l[last] = end
	return l, api.OK
}

// Follow a chain from an address on: all addresses, at most so many.
func Follow(w []int, at, most int) ([]int, api.Errno) {
	// Even a chain without addresses has more than a number below 0.
	if most < 0 {
		return nil, api.ErrState
	}
	// A chain with an address twice goes round for ever, so it outgrows the number of words.
	most = min(most, len(w))
	var l []int
	for a := at; a != end; a = w[a] {
		if len(l) == most || !isAddress(w, a) {
			return nil, api.ErrState
		}
		l = append(l, a)
	}
	return l, api.OK
}

func isAddress(w []int, at int) bool { return at >= 0 && at < len(w) }

// areThere: are the n words from an address on, n not below 0? No words are there at any address.
func areThere(w []int, at, n int) bool {
	// A difference, as the sum of address and number might wrap round.
	return n == 0 || at >= 0 && at <= len(w)-n
}

// clone in memory of its own, spare room too.
func clone(w []int) []int {
	l := make([]int, len(w))
	copy(l, w)
	return l
}
