package slab

import (
	"slices"

	"paddock/api"
	"paddock/ram"
)

func isSize(size int) bool { return size >= 1 && size <= api.MaxObject }

func isAlign(n int) bool { return n == 1 || n == 2 || n == 4 || n == 8 }

func isCpu(s api.System, cpu int) bool { return cpu >= 0 && cpu < s.Heap.Cpus }

// isName: has it so many small letters and digits? These are those of ASCII, so each is a byte.
func isName(n string) bool {
	if len(n) < 1 || len(n) > api.MaxName {
		return false
	}
	for i := range len(n) {
		if b := n[i]; (b < 'a' || b > 'z') && (b < '0' || b > '9') {
			return false
		}
	}
	return true
}

// wordsOf a block of an order.
func wordsOf(order int) int { return api.PageWords << order }

// firstWord of a page: its address.
func firstWord(page int) int { return page * api.PageWords }

// namesMayBe: are all of them names, that rise in each cache, and no two the same?
func namesMayBe(l []api.Cache) bool {
	owner := map[string]int{}
	for i, c := range l {
		last := ""
		for _, n := range c.Names {
			if !isName(n) || n <= last {
				return false
			}
			if _, twice := owner[n]; twice {
				return false
			}
			owner[n] = i
			last = n
		}
	}
	return true
}

// areUnlike: has no cache the size of another one, and does no slab begin where another one does?
func areUnlike(l []api.Cache) bool {
	bySize, byPage := map[int]int{}, map[int]int{}
	for i, c := range l {
		if _, twice := bySize[c.Size]; twice {
			return false
		}
		bySize[c.Size] = i
		for _, b := range c.Slabs {
			if _, twice := byPage[b.At]; twice {
				return false
			}
			byPage[b.At] = i
		}
	}
	return true
}

// cachesMayBe: may each one, by itself, in a system with words and a heap that may be?
func cachesMayBe(s api.System) bool {
	return !slices.ContainsFunc(s.Caches, func(c api.Cache) bool { return !cacheMayBe(s, c) })
}

func cacheMayBe(s api.System, c api.Cache) bool {
	order, per, e := Layout(c.Size)
	if e != api.OK || c.Order != order || c.Per != per {
		return false
	}
	return len(c.Names) > 0 && slabsMayBe(s, c) && activeMayBe(s, c)
}

// slabsMayBe: are they blocks that are given away, by their places, with chains of their objects?
func slabsMayBe(s api.System, c api.Cache) bool {
	for k, b := range c.Slabs {
		if k > 0 && c.Slabs[k-1].At >= b.At {
			return false
		}
		isSlab := func(l api.Block) bool { return l.At == b.At && l.Order == c.Order }
		if !slices.ContainsFunc(s.Heap.Live, isSlab) || !chainMayBe(s, c, b) {
			return false
		}
	}
	return true
}

// chainMayBe: is it one of so many objects of the slab as are free?
func chainMayBe(s api.System, c api.Cache, b api.Slab) bool {
	l, e := ram.Follow(s.Words, b.First, b.Free)
	if e != api.OK || len(l) != b.Free {
		return false
	}
	return !slices.ContainsFunc(l, func(at int) bool { return !isObject(c, b, at) })
}

// activeMayBe: does each processor take from a slab of its own, or from none?
func activeMayBe(s api.System, c api.Cache) bool {
	if len(c.Active) != s.Heap.Cpus {
		return false
	}
	taker := map[int]int{}
	for cpu, at := range c.Active {
		if at == none {
			continue
		}
		if !slices.ContainsFunc(c.Slabs, func(b api.Slab) bool { return b.At == at }) {
			return false
		}
		if _, twice := taker[at]; twice {
			return false
		}
		taker[at] = cpu
	}
	return true
}

// isObject: does one of a slab begin at an address?
func isObject(c api.Cache, b api.Slab, addr int) bool {
	first := firstWord(b.At)
	return addr >= first && addr-first < c.Size*c.Per && (addr-first)%c.Size == 0
}
