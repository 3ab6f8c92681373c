package slab

import (
	"slices"

	"paddock/api"
	"paddock/ram"
)

// named: the place of the cache with a name, in a system that may be.
func named(s api.System, n string) (int, api.Errno) {
	if e := Check(s); e != api.OK {
		return 0, e
	}
	i := cacheNamed(s.Caches, n)
	if i < 0 {
		return 0, api.ErrNone
	}
	return i, api.OK
}

// askedFor: so, for a processor.
func askedFor(s api.System, n string, cpu int) (int, api.Errno) {
	i, e := named(s, n)
	if e != api.OK {
		return 0, e
	}
	if !isCpu(s, cpu) {
		return 0, api.ErrRange
	}
	return i, api.OK
}

// cacheNamed: the place of the cache with a name; -1: there is none.
func cacheNamed(l []api.Cache, n string) int {
	return slices.IndexFunc(l, func(c api.Cache) bool { return slices.Contains(c.Names, n) })
}

// cacheOfSize: the place of the cache whose objects have so many words; -1: there is none.
func cacheOfSize(l []api.Cache, size int) int {
	return slices.IndexFunc(l, func(c api.Cache) bool { return c.Size == size })
}

// slabWith: the place, in a cache, of the slab with an object that begins at an address, and is not free; -1: there is none.
func slabWith(s api.System, c api.Cache, addr int) int {
	return slices.IndexFunc(c.Slabs, func(b api.Slab) bool { return isObject(c, b, addr) && !isFree(s, b, addr) })
}

// slabFor a processor: the place of the one to take from; -1: none that it may take from has free objects.
func slabFor(c api.Cache, cpu int) int {
	own := slices.IndexFunc(c.Slabs, func(b api.Slab) bool { return b.At == c.Active[cpu] && b.Free > 0 })
	if own >= 0 {
		return own
	}
	return slices.IndexFunc(c.Slabs, func(b api.Slab) bool { return b.Free > 0 && !isTaken(c, b) })
}

// isFree: is an address in the chain of a slab?
func isFree(s api.System, b api.Slab, addr int) bool {
	l, e := ram.Follow(s.Words, b.First, b.Free)
	return e == api.OK && slices.Contains(l, addr)
}

// isTaken: does a processor take from a slab?
func isTaken(c api.Cache, b api.Slab) bool { return slices.Contains(c.Active, b.At) }

// isWhole: are all objects of a slab free?
func isWhole(c api.Cache, b api.Slab) bool { return b.Free == c.Per }

// isSpare: are they, and nobody takes from it?
func isSpare(c api.Cache, b api.Slab) bool { return isWhole(c, b) && !isTaken(c, b) }

// countSpare: how many slabs of a cache are.
func countSpare(c api.Cache) int {
	n := 0
	for _, b := range c.Slabs {
		if isSpare(c, b) {
			n++
		}
	}
	return n
}

// isBusy: is an object of a cache given away?
func isBusy(c api.Cache) bool {
	return slices.ContainsFunc(c.Slabs, func(b api.Slab) bool { return !isWhole(c, b) })
}
