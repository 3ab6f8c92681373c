package kmem_test

import (
	"fmt"
	"slices"
	"testing"

	"paddock/api"
	"paddock/kmem"
	"paddock/pages"
	"paddock/slab"
)

// cacheOf objects of a size, with such names, that rise; for one processor, without slabs.
func cacheOf(t *testing.T, size int, names ...string) api.Cache {
	t.Helper()
	order, per, e := slab.Layout(size)
	if e != api.OK {
		t.Fatalf("Layout %d: %d", size, int(e))
	}
	return api.Cache{Names: names, Size: size, Per: per, Order: order, Active: []int{-1}}
}

// only these caches, in a system of one processor with 16 free pages.
func only(t *testing.T, l ...api.Cache) api.System {
	t.Helper()
	heap := api.Heap{Zones: []api.Zone{{}, {To: 256, Free: blocks(0, 4, 0), Types: make([]int, 32)}}, Mins: []int{0, 0}, Cpus: 1}
	s := api.System{Words: make([]int, 4096), Heap: heap, Caches: l}
	wantMayBe(t, "only", s)
	return s
}

// wantFrom: n words are an object of the cache with a name, as slab gives it away; without a name there is no such cache.
func wantFrom(t *testing.T, s api.System, n int, name string) {
	t.Helper()
	if name == "" {
		wantAlloc(t, s, 0, n, api.System{}, 0, api.ErrNone)
		wantAlloc(t, s, -1, n, api.System{}, 0, api.ErrNone) // ahead of a processor that is none
		return
	}
	want, at, e := slab.Alloc(s, name, 0)
	if e != api.OK {
		t.Fatalf("slab.Alloc %s: %d", name, int(e))
	}
	wantAlloc(t, s, 0, n, want, at, api.OK)
	wantAlloc(t, s, -1, n, api.System{}, 0, api.ErrRange)
	i := slices.IndexFunc(s.Caches, func(c api.Cache) bool { return slices.Contains(c.Names, name) })
	wantSize(t, want, at, s.Caches[i].Size, api.OK)
}

// P6.3: of the caches with a name of P6.1 the least one whose objects have so many words, whatever size its name tells.
func TestAllocLeast(t *testing.T) {
	two, four := cacheOf(t, 8, "k2"), cacheOf(t, 16, "k4")
	for _, s := range []api.System{only(t, two, four), only(t, four, two)} {
		for n := 1; n <= 32; n++ {
			switch {
			case n <= 8:
				wantFrom(t, s, n, "k2")
			case n <= 16:
				wantFrom(t, s, n, "k4")
			default:
				wantFrom(t, s, n, "")
			}
		}
	}
	// Names that fall as sizes rise.
	falling := only(t, cacheOf(t, 1, "k32"), cacheOf(t, 2, "k16"), cacheOf(t, 4, "k8"), cacheOf(t, 8, "k4"), cacheOf(t, 16, "k2"), cacheOf(t, 32, "k1"))
	for n := 1; n <= 32; n++ {
		name := map[string]string{"k1": "k32", "k2": "k16", "k4": "k8", "k8": "k4", "k16": "k2", "k32": "k1"}[nameFor(n)]
		wantFrom(t, falling, n, name)
	}
}

// P6.3: where caches of P6.1 are not there the next one that is has the words.
func TestAllocNextCache(t *testing.T) {
	alone := only(t, cacheOf(t, 8, "k8"))
	for n := 1; n <= 32; n++ {
		if n <= 8 {
			wantFrom(t, alone, n, "k8")
		} else {
			wantFrom(t, alone, n, "")
		}
	}
	s := some()
	for n := 1; n <= 4; n++ {
		want := clone(s)
		want.Caches[0].Slabs[0] = api.Slab{At: 64, Free: 1, First: 1036}
		wantAlloc(t, s, 0, n, want, 1028, api.OK)
	}
	for n := 5; n <= 16; n++ {
		want := clone(s)
		want.Caches[3].Slabs[0] = api.Slab{At: 72, Free: 1, First: 1184}
		wantAlloc(t, s, 2, n, want, 1168, api.OK)
	}
	for n := 17; n <= 32; n++ {
		for _, cpu := range []int{0, 2, -1, 3} {
			wantAlloc(t, s, cpu, n, api.System{}, 0, api.ErrNone)
		}
	}
}

// P6.3: caches without a name of P6.1 do not count, also where their objects have so many words; those with one more name do.
func TestAllocOtherNames(t *testing.T) {
	for _, name := range []string{"ob", "k", "k0", "k01", "k3", "k5", "k12", "k33", "k64", "kk4", "xk4", "k4k", "4"} {
		s := only(t, cacheOf(t, 3, name), cacheOf(t, 8, "k8"))
		wantFrom(t, s, 3, "k8")
		wantFrom(t, s, 9, "")
		wantFrom(t, only(t, cacheOf(t, 40, name)), 3, "")
	}
	named := only(t, cacheOf(t, 8, "k8"), cacheOf(t, 5, "a", "k32", "z"), cacheOf(t, 4, "b"))
	wantFrom(t, named, 4, "k32")
	wantFrom(t, named, 6, "k8")
}

// P6.3: more than 32 words are pages, also where a cache's objects have so many; 32 words are an object.
func TestAllocLarge(t *testing.T) {
	s := only(t, cacheOf(t, 64, "k1"), cacheOf(t, 31, "k32"))
	for _, n := range []int{1, 31} {
		wantFrom(t, s, n, "k32")
	}
	wantFrom(t, s, 32, "k1")
	for _, n := range []int{33, 64} {
		want := clone(s)
		want.Heap, _, _ = pages.Alloc(s.Heap, 0, 2, 0)
		wantAlloc(t, s, 0, n, want, 0, api.OK)
	}
}

// P6.3: without caches there are no objects, but pages.
func TestAllocNoCache(t *testing.T) {
	bare := changed(some(), func(s *api.System) { s.Caches = nil })
	for n := 1; n <= 32; n++ {
		wantAlloc(t, bare, 0, n, api.System{}, 0, api.ErrNone)
	}
	want := clone(bare)
	want.Heap, _, _ = pages.Alloc(bare.Heap, 0, 2, 0)
	wantAlloc(t, bare, 0, 33, want, 1536, api.OK)
}

// P6.3: the least cache counts, also if there is no room for it, but for a greater one.
func TestAllocLeastWithoutRoom(t *testing.T) {
	s := only(t, cacheOf(t, 8, "k2"), cacheOf(t, 16, "k4"))
	x, _, e := slab.Alloc(s, "k4", 0)
	if e != api.OK {
		t.Fatalf("slab.Alloc: %d", int(e))
	}
	x.Heap.Zones[1].Free = nil
	wantMayBe(t, "no room", x)
	wantAlloc(t, x, 0, 3, api.System{}, 0, api.ErrRoom)
	wantFrom(t, x, 9, "k4")
}

// drawnCaches: of unlike sizes, with one name each; some names are none of P6.1.
func drawnCaches(t *testing.T, d *die) []api.Cache {
	t.Helper()
	var l []api.Cache
	names := []string{"k1", "k2", "k3", "k4", "k8", "k16", "k32", "k64", "ob", "z"}
	for range d.n(8) {
		i, size := d.n(len(names)), 1+d.n([]int{8, 40, 64}[d.n(3)])
		if !slices.ContainsFunc(l, func(c api.Cache) bool { return c.Size == size }) {
			l = append(l, cacheOf(t, size, names[i]))
			names = slices.Delete(names, i, i+1)
		}
	}
	return l
}

// P6.3: in drawn systems, held against all caches in the order of their sizes.
func TestAllocLeastDrawn(t *testing.T) {
	d := die(603)
	for range 100 {
		s := only(t, drawnCaches(t, &d)...)
		rising := slices.SortedFunc(slices.Values(s.Caches), func(a, b api.Cache) int { return a.Size - b.Size })
		for range 6 {
			n, name := 1+d.n(32), ""
			for _, c := range rising {
				if c.Size >= n && slices.Contains([]string{"k1", "k2", "k4", "k8", "k16", "k32"}, c.Names[0]) {
					name = c.Names[0]
					break
				}
			}
			wantFrom(t, s, n, name)
		}
	}
}

// renamed: a cache's name is that of objects of another size.
func renamed(t *testing.T, s api.System, n string, size int) api.System {
	t.Helper()
	x, e := slab.Destroy(s, n)
	if e == api.OK {
		x, e = slab.Create(x, n, size, 1)
	}
	if e != api.OK {
		t.Fatalf("a cache %s of size %d: %d", n, size, int(e))
	}
	return x
}

// P6.3, P6.6: at least n words, also where a name is that of a cache with other sizes that came to a system that New began.
func TestAllocOtherSizes(t *testing.T) {
	s := renamed(t, fresh(t), "k4", 2) // k2's
	s = renamed(t, s, "k16", 7)
	s = renamed(t, s, "k32", 20)
	have := []int{1, 2, 7, 8, 20}
	for n := 1; n <= 20; n++ {
		x, at, e := kmem.Alloc(s, 0, n)
		if e != api.OK {
			t.Errorf("Alloc %d: %d, want OK", n, int(e))
			continue
		}
		wantSize(t, x, at, have[slices.IndexFunc(have, func(z int) bool { return z >= n })], api.OK)
	}
	for n := 21; n <= 32; n++ {
		wantAlloc(t, s, 0, n, api.System{}, 0, api.ErrNone)
	}
}

// P6.6: words are asked as P6.3 says, and come along.
func TestResizeLeast(t *testing.T) {
	s := only(t, cacheOf(t, 2, "k1"), cacheOf(t, 40, "k8"), cacheOf(t, 8, "k32"))
	for _, c := range []struct {
		n, words int
	}{{1, 2}, {2, 2}, {3, 8}, {8, 8}, {9, 40}, {32, 40}, {33, 64}, {65, 128}} {
		x, at, e := kmem.Alloc(s, 0, 2)
		if e != api.OK {
			t.Fatalf("Alloc 2: %d", int(e))
		}
		x.Words[at], x.Words[at+1] = 70, 71
		y, to, e := kmem.Resize(x, 0, at, c.n)
		if e != api.OK {
			t.Errorf("Resize to %d: %d, want OK", c.n, int(e))
			continue
		}
		what := fmt.Sprint("Resize to ", c.n)
		wantMayBe(t, what, y)
		wantSize(t, y, to, c.words, api.OK)
		if !slices.Equal(y.Words[to:to+2], []int{70, 71}) {
			t.Errorf("%s: %v", what, y.Words[to:to+2])
		}
		if to != at {
			wantSize(t, y, at, 0, api.ErrNone)
		}
	}
	// Of an object of 40 words no more than 32 are asked: all stays.
	x, at, _ := kmem.Alloc(s, 0, 20)
	for _, n := range []int{33, 40} {
		wantResize(t, x, 0, at, n, x, at, api.OK)
	}
	alone := only(t, cacheOf(t, 8, "k4"))
	x, at, _ = kmem.Alloc(alone, 0, 3)
	for n := 9; n <= 32; n++ {
		wantResize(t, x, 0, at, n, api.System{}, 0, api.ErrNone)
	}
}
