package slab

import (
	"slices"

	"paddock/api"
	"paddock/pages"
	"paddock/ram"
)

// newCache with a name, for objects of a size, without slabs.
func newCache(n string, size, cpus int) (api.Cache, api.Errno) {
	order, per, e := Layout(size)
	if e != api.OK {
		return api.Cache{}, e
	}
	c := api.Cache{Names: []string{n}, Size: size, Per: per, Order: order, Active: make([]int, cpus)}
	takeFromNone(&c)
	return c, api.OK
}

// copyCache in memory of its own.
func copyCache(c api.Cache) api.Cache {
	x := c
	x.Names = make([]string, len(c.Names))
	x.Slabs = make([]api.Slab, len(c.Slabs))
	x.Active = make([]int, len(c.Active))
	copy(x.Names, c.Names)
	copy(x.Slabs, c.Slabs)
	copy(x.Active, c.Active)
	return x
}

// addName that no cache has yet, where it rises; the cache is the caller's own.
func addName(c *api.Cache, n string) {
	i, _ := slices.BinarySearch(c.Names, n)
	c.Names = slices.Insert(c.Names, i, n)
}

// takeFromNone: no processor takes from the cache's slabs; the cache is the caller's own.
func takeFromNone(c *api.Cache) {
	for cpu := range c.Active {
		c.Active[cpu] = none
	}
}

// take an object of a cache, for a processor: its address; the system is the caller's own.
func take(x *api.System, i, cpu int) (int, api.Errno) {
	k := slabFor(x.Caches[i], cpu)
	if k < 0 {
		var e api.Errno
		if k, e = grow(x, i, cpu); e != api.OK {
			return 0, e
		}
	}
	b := &x.Caches[i].Slabs[k]
	at := b.First
	b.First = x.Words[at]
	b.Free--
	x.Caches[i].Active[cpu] = b.At
	return at, api.OK
}

// put an object ahead of the others of its slab's chain; the system is the caller's own.
func put(x *api.System, i, k, addr int) {
	b := &x.Caches[i].Slabs[k]
	x.Words[addr] = b.First
	b.First = addr
	b.Free++
}

// grow a cache by a slab whose objects are all free: its place among the others; the system is the caller's own.
func grow(x *api.System, i, cpu int) (int, api.Errno) {
	c := &x.Caches[i]
	h, at, e := pages.Alloc(x.Heap, cpu, c.Order, 0)
	if e != api.OK {
		return 0, e
	}
	first := firstWord(at)
	w, e := ram.Chain(x.Words, first, c.Size, c.Per)
	if e != api.OK {
		return 0, e
	}
	x.Heap, x.Words = h, w
	k := slices.IndexFunc(c.Slabs, func(b api.Slab) bool { return b.At > at })
	if k < 0 {
		k = len(c.Slabs)
	}
	c.Slabs = slices.Insert(c.Slabs, k, api.Slab{At: at, Free: c.Per, First: first})
	return k, api.OK
}

// giveBack the pages of a slab from which nobody takes, by a processor; the system is the caller's own.
func giveBack(x *api.System, i, k, cpu int) api.Errno {
	c := &x.Caches[i]
	h, e := pages.Free(x.Heap, cpu, c.Slabs[k].At)
	if e != api.OK {
		return e
	}
	x.Heap = h
	c.Slabs = slices.Delete(c.Slabs, k, k+1)
	return api.OK
}

// shrink a cache; the system is the caller's own.
func shrink(x *api.System, i int) api.Errno {
	c := &x.Caches[i]
	takeFromNone(c)
	for k := len(c.Slabs) - 1; k >= 0; k-- {
		if !isWhole(*c, c.Slabs[k]) {
			continue
		}
		if e := giveBack(x, i, k, 0); e != api.OK {
			return e
		}
	}
	return api.OK
}
