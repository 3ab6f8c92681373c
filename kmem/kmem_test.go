package kmem_test

import (
	"fmt"
	"slices"
	"testing"

	"paddock/api"
	"paddock/kmem"
	"paddock/pages"
	"paddock/slab"
)

// plain setup: 64 pages of the second zone, two processors, nothing held back.
func plain() api.Setup {
	return api.Setup{Boot: api.Boot{Memory: []api.Region{{From: 64, Size: 64}}}, Split: 64, Cpus: 2}
}

// fresh system of that.
func fresh(t *testing.T) api.System {
	t.Helper()
	s, e := kmem.New(plain())
	if e != api.OK {
		t.Fatalf("New: %d", int(e))
	}
	return s
}

// always: the caches that there always are, without slabs.
func always(cpus int) []api.Cache {
	var l []api.Cache
	for _, c := range []struct {
		name             string
		size, per, order int
	}{{"k1", 1, 16, 0}, {"k2", 2, 8, 0}, {"k4", 4, 4, 0}, {"k8", 8, 4, 1}, {"k16", 16, 4, 2}, {"k32", 32, 2, 2}} {
		l = append(l, api.Cache{Names: []string{c.name}, Size: c.size, Per: c.per, Order: c.order, Active: slices.Repeat([]int{-1}, cpus)})
	}
	return l
}

// some system: three processors. Of its caches k4 (four, too) and k16 have names of P6.1, ob and k3 do not; others there are not.
// The pages 0, 65, 76 to 79, 80 to 95 and 255 are whole ones.
func some() api.System {
	h, _ := pages.New(nil, 64, 0, 3)
	s := api.System{Words: make([]int, 4096), Heap: h}
	for i := range s.Words {
		s.Words[i] = 10000 + i
	}
	s.Heap.Zones[1].Free = blocks(96, 4, 1, 112, 4, 1)
	s.Heap.Zones[1].Types[0], s.Heap.Zones[1].Types[1] = 0, 0
	s.Heap.Lists = []api.List{{Cpu: 1, Zone: 1, Type: 0, Pages: []int{67, 71}}}
	s.Heap.Live = blocks(0, 0, 0, 64, 0, 0, 65, 0, 1, 66, 0, 0, 68, 1, 0, 70, 0, 0, 72, 2, 0, 76, 2, 0, 80, 4, 2, 255, 0, 0)
	s.Caches = []api.Cache{
		{Names: []string{"four", "k4"}, Size: 4, Per: 4, Order: 0, Slabs: slabs(64, 2, 1028, 66, 4, 1056), Active: []int{64, -1, -1}},
		{Names: []string{"ob"}, Size: 5, Per: 6, Order: 1, Slabs: slabs(68, 4, 1098), Active: []int{-1, 68, -1}},
		{Names: []string{"k3"}, Size: 3, Per: 5, Order: 0, Slabs: slabs(70, 4, 1123), Active: []int{-1, -1, -1}},
		{Names: []string{"k16"}, Size: 16, Per: 4, Order: 2, Slabs: slabs(72, 2, 1168), Active: []int{-1, -1, 72}},
	}
	chain(s.Words, 1028, 1036)
	chain(s.Words, 1056, 1060, 1064, 1068)
	chain(s.Words, 1098, 1103, 1108, 1113)
	chain(s.Words, 1123, 1126, 1129, 1132)
	chain(s.Words, 1168, 1184)
	return s
}

// someSizes: what was asked by number in that system: its address, and its words.
func someSizes() map[int]int {
	return map[int]int{1024: 4, 1032: 4, 1152: 16, 1200: 16, 0: 16, 1040: 16, 1216: 64, 1280: 256, 4080: 16}
}

// addresses: all that there are, some more at both ends, and strange ones.
func addresses() []int {
	var l []int
	for at := -40; at < 4140; at++ {
		l = append(l, at)
	}
	return append(l, strange...)
}

// mayNotBe: what is otherwise, so that slab's Check refuses it.
func mayNotBe() map[string]func(s *api.System) {
	return map[string]func(s *api.System){
		"nothing at all":             func(s *api.System) { *s = api.System{} },
		"a word less":                func(s *api.System) { s.Words = s.Words[:4095] },
		"a word more":                func(s *api.System) { s.Words = append(s.Words, 0) },
		"no processors":              func(s *api.System) { s.Heap.Cpus = 0 },
		"a page in two places":       func(s *api.System) { s.Heap.Live[2].At = 67 },
		"a Live block of an order 5": func(s *api.System) { s.Heap.Live[8].Order = 5 },
		"a cache without names":      func(s *api.System) { s.Caches[1].Names = nil },
		"a cache of size 0":          func(s *api.System) { s.Caches[1].Size = 0 },
		"a slab that is not Live":    func(s *api.System) { s.Caches[2].Slabs[0].At = 71 },
		"a chain that goes on":       func(s *api.System) { s.Words[1184] = 1152 },
		"an Active less":             func(s *api.System) { s.Caches[3].Active = s.Caches[3].Active[:2] },
	}
}

// P6.1: the pages that are free, words that are 0, and six caches.
func TestNew(t *testing.T) {
	memory, reserved := []api.Region{{From: 0, Size: 100}, {From: 128, Size: 100}}, []api.Region{{From: 10, Size: 20}, {From: 90, Size: 30}, {From: 240, Size: 4}}
	free := []api.Region{{From: 0, Size: 10}, {From: 30, Size: 60}, {From: 128, Size: 100}}
	for _, c := range []struct {
		u    api.Setup
		free []api.Region
	}{
		{api.Setup{Boot: api.Boot{Memory: memory, Reserved: reserved}, Split: 64, Min: 3, Cpus: 2}, free},
		{api.Setup{Boot: api.Boot{Memory: memory, Reserved: reserved}, Split: 0, Min: 256, Cpus: 4}, free},
		{api.Setup{Boot: api.Boot{Memory: memory}, Split: 256, Min: 0, Cpus: 1}, memory},
		{api.Setup{Boot: api.Boot{Reserved: reserved}, Split: 16, Min: 1, Cpus: 3}, nil},
		{plain(), []api.Region{{From: 64, Size: 64}}},
	} {
		h, e := pages.New(c.free, c.u.Split, c.u.Min, c.u.Cpus)
		if e != api.OK {
			t.Fatalf("pages.New: %d", int(e))
		}
		want := api.System{Words: make([]int, 4096), Heap: h, Caches: always(c.u.Cpus)}
		wantNew(t, c.u, want, api.OK)
		wantMayBe(t, "New", want)
	}
}

// combs: so many free regions of three pages.
func combs(n int) api.Boot {
	var b api.Boot
	for i := range n / 2 {
		b.Memory = append(b.Memory, api.Region{From: 8 * i, Size: 7})
		b.Reserved = append(b.Reserved, api.Region{From: 8*i + 3, Size: 1})
	}
	if n%2 == 1 {
		b.Memory = append(b.Memory, api.Region{From: 250, Size: 3})
	}
	return b
}

// P6.1: what is refused on the way.
func TestNewWrong(t *testing.T) {
	change := func(how func(u *api.Setup)) api.Setup {
		u := plain()
		how(&u)
		return u
	}
	zero := api.System{}
	for _, l := range [][]api.Region{{{From: 64}}, {{From: -1, Size: 3}}, {{From: 250, Size: 7}}, {{From: 8, Size: 1}, {From: 4, Size: 1}}, {{From: 8, Size: 2}, {From: 10, Size: 1}}, make([]api.Region, 41)} {
		for _, split := range []int{64, 65, -16} {
			for _, cpus := range []int{1, 0} {
				wantNew(t, change(func(u *api.Setup) { u.Boot.Memory, u.Split, u.Cpus = l, split, cpus }), zero, api.ErrState)
				wantNew(t, change(func(u *api.Setup) { u.Boot.Reserved, u.Split, u.Min = l, split, -cpus }), zero, api.ErrState)
			}
		}
	}
	// Free regions may be more than regions that may be: P4.1 refuses them.
	for _, n := range []int{41, 42, 60} {
		wantNew(t, change(func(u *api.Setup) { u.Boot = combs(n) }), zero, api.ErrState)
		wantNew(t, change(func(u *api.Setup) { u.Boot, u.Split = combs(n), 1 }), zero, api.ErrState)
	}
	for _, n := range []int{39, 40} {
		if _, e := kmem.New(change(func(u *api.Setup) { u.Boot = combs(n) })); e != api.OK {
			t.Errorf("New with %d free regions: %d, want OK", n, int(e))
		}
	}
	for _, n := range append([]int{-1, 257, 1 << 20}, strange...) {
		wantNew(t, change(func(u *api.Setup) { u.Split = n }), zero, api.ErrRange)
		wantNew(t, change(func(u *api.Setup) { u.Min = n }), zero, api.ErrRange)
		wantNew(t, change(func(u *api.Setup) { u.Cpus = n }), zero, api.ErrRange)
	}
	for _, n := range []int{1, 8, 63, 65, 255, 272} {
		wantNew(t, change(func(u *api.Setup) { u.Split = n }), zero, api.ErrRange)
	}
	wantNew(t, change(func(u *api.Setup) { u.Cpus = 0 }), zero, api.ErrRange)
	wantNew(t, change(func(u *api.Setup) { u.Cpus = 5 }), zero, api.ErrRange)
	wantNew(t, api.Setup{}, zero, api.ErrRange)
}

// P6.2: what may not be is refused ahead of all else.
func TestStateFirst(t *testing.T) {
	wantMayBe(t, "some", some())
	for name, how := range mayNotBe() {
		s, zero := changed(some(), how), api.System{}
		if e := slab.Check(s); e != api.ErrState {
			t.Fatalf("Check with %s: %d", name, int(e))
		}
		for _, cpu := range []int{0, -1, 3} {
			for _, n := range []int{1, 4, 40, 0, -1, 257} {
				wantAlloc(t, s, cpu, n, zero, 0, api.ErrState)
				for _, addr := range []int{1024, 1040, 1280, -1, 5000} {
					wantResize(t, s, cpu, addr, n, zero, 0, api.ErrState)
				}
			}
			for _, addr := range []int{1024, 1040, 1280, -1, 5000} {
				wantFree(t, s, cpu, addr, zero, api.ErrState)
				wantSize(t, s, addr, 0, api.ErrState)
			}
		}
	}
}

// P6.2, P6.4: of all addresses those of what was asked by number: objects of caches with such a name, and blocks that are no slabs.
func TestSize(t *testing.T) {
	s, sizes := some(), someSizes()
	for _, addr := range addresses() {
		if n, ok := sizes[addr]; ok {
			wantSize(t, s, addr, n, api.OK)
		} else {
			wantSize(t, s, addr, 0, api.ErrNone)
		}
	}
	// Its name alone makes a cache one of those, whatever other names and size it has.
	named := changed(s, func(s *api.System) {
		s.Caches[1].Names = []string{"a", "k1", "z"}
		s.Caches[0].Names = []string{"four"}
	})
	wantMayBe(t, "named", named)
	for _, addr := range []int{1088, 1093} {
		wantSize(t, named, addr, 5, api.OK)
	}
	for _, addr := range []int{1024, 1032, 1098, 1089} {
		wantSize(t, named, addr, 0, api.ErrNone)
	}
	for _, n := range []string{"k", "k0", "k01", "k11", "k12", "k33", "k64", "kk4", "xk4", "k4k", "4", "k5"} {
		x := changed(s, func(s *api.System) { s.Caches[0].Names = []string{n} })
		wantMayBe(t, n, x)
		wantSize(t, x, 1024, 0, api.ErrNone)
	}
	for _, n := range []string{"k1", "k2", "k4", "k8", "k32"} {
		x := changed(s, func(s *api.System) { s.Caches[0].Names = []string{n} })
		wantMayBe(t, n, x)
		wantSize(t, x, 1024, 4, api.OK)
	}
}

// nameFor so many words: the least of the caches that has them.
func nameFor(n int) string {
	switch {
	case n == 1:
		return "k1"
	case n == 2:
		return "k2"
	case n <= 4:
		return "k4"
	case n <= 8:
		return "k8"
	case n <= 16:
		return "k16"
	}
	return "k32"
}

// orderFor so many words, that are more than an object's: at least four pages.
func orderFor(n int) int {
	switch {
	case n <= 64:
		return 2
	case n <= 128:
		return 3
	}
	return 4
}

// askWords: what should come of n words that are asked, by what the layers below do.
func askWords(s api.System, cpu, n int) (api.System, int, api.Errno) {
	switch {
	case n <= 0:
		return api.System{}, 0, api.ErrRange
	case n >= 257:
		return api.System{}, 0, api.ErrSize
	case n <= 32:
		return slab.Alloc(s, nameFor(n), cpu)
	}
	x := clone(s)
	h, at, e := pages.Alloc(s.Heap, cpu, orderFor(n), 0)
	if e != api.OK {
		return api.System{}, 0, e
	}
	x.Heap = h
	return x, at * 16, api.OK
}

// P6.3: each number of words, of each processor, in a fresh system, and in one where some are given away.
func TestAlloc(t *testing.T) {
	s := fresh(t)
	used := s
	for _, n := range []int{1, 3, 20, 7, 40, 2, 16, 30, 100, 4} {
		used, _, _ = kmem.Alloc(used, n%2, n)
	}
	for n := 1; n <= 256; n++ {
		for cpu := range 2 {
			want, at, e := askWords(s, cpu, n)
			if at != 1024 || e != api.OK {
				t.Fatalf("%d words of a fresh system: %d, %d", n, at, int(e))
			}
			wantAlloc(t, s, cpu, n, want, 1024, api.OK)
			size := []int{1, 2, 4, 8, 16, 32, 64, 128, 256}
			wantSize(t, want, 1024, size[slices.IndexFunc(size, func(x int) bool { return x >= n })], api.OK)
			want, at, e = askWords(used, cpu, n)
			if e != api.OK {
				want = api.System{}
			}
			wantAlloc(t, used, cpu, n, want, at, e)
		}
	}
}

// P6.3: the places of some words, one by one.
func TestAllocPlaces(t *testing.T) {
	s := fresh(t)
	for i, c := range [][3]int{
		// 64 is the first page; 65 to 67 are on the list then.
		{0, 3, 1024}, {0, 4, 1028}, {0, 3, 1032}, {0, 4, 1036},
		// The last page of the list; the next slab; the other processor takes from its own.
		{0, 3, 1072}, {0, 1, 1056}, {0, 2, 1040}, {1, 3, 1088},
		// Pages of an order: two from 72 on, four from 76 on, eight from 80 on, and so on.
		{0, 5, 1152}, {0, 8, 1160}, {0, 16, 1216}, {0, 100, 1280}, {0, 128, 1408}, {0, 129, 1536}, {1, 256, 1792},
	} {
		x, at, e := kmem.Alloc(s, c[0], c[1])
		if at != c[2] || e != api.OK {
			t.Errorf("words %d, %d of processor %d: %d, %d; want %d", i, c[1], c[0], at, int(e), c[2])
		}
		s = x
	}
	wantMayBe(t, "Alloc", s)
	wantAlloc(t, s, 0, 129, api.System{}, 0, api.ErrRoom)
	wantAlloc(t, s, 0, 65, api.System{}, 0, api.ErrRoom)
}

// P6.3: what is wrong, and which of it comes first.
func TestAllocWrong(t *testing.T) {
	empty, e := kmem.New(api.Setup{Cpus: 2, Split: 64})
	if e != api.OK {
		t.Fatalf("New: %d", int(e))
	}
	for _, s := range []api.System{fresh(t), empty, some()} {
		zero := api.System{}
		for _, cpu := range append([]int{0, 1, -1, 3, 4}, strange...) {
			for _, n := range append([]int{0, -1, 257, 258, 512}, strange...) {
				want := api.ErrRange
				if n > 256 {
					want = api.ErrSize
				}
				wantAlloc(t, s, cpu, n, zero, 0, want)
			}
			if cpu == 0 || cpu == 1 {
				continue
			}
			for _, n := range []int{3, 4, 16, 33, 256} {
				wantAlloc(t, s, cpu, n, zero, 0, api.ErrRange)
			}
		}
	}
	for n := 1; n <= 256; n++ {
		wantAlloc(t, empty, 0, n, api.System{}, 0, api.ErrRoom)
		wantAlloc(t, empty, 2, n, api.System{}, 0, api.ErrRange)
	}
}

// P6.5: objects go back to their slabs, pages to lists and zones.
func TestFree(t *testing.T) {
	s := some()
	list := func(cpu, zone, kind int, l ...int) api.List {
		return api.List{Cpu: cpu, Zone: zone, Type: kind, Pages: l}
	}
	dead := func(h *api.Heap, at int) {
		h.Live = slices.DeleteFunc(h.Live, func(b api.Block) bool { return b.At == at })
	}
	for _, c := range []struct {
		cpu, addr int
		then      func(s *api.System)
	}{
		{0, 1024, func(s *api.System) {
			s.Caches[0].Slabs[0] = api.Slab{At: 64, Free: 3, First: 1024}
			s.Words[1024] = 1028
		}},
		{2, 1032, func(s *api.System) {
			s.Caches[0].Slabs[0] = api.Slab{At: 64, Free: 3, First: 1032}
			s.Words[1032] = 1028
		}},
		{0, 1152, func(s *api.System) {
			s.Caches[3].Slabs[0] = api.Slab{At: 72, Free: 3, First: 1152}
			s.Words[1152] = 1168
		}},
		{1, 1200, func(s *api.System) {
			s.Caches[3].Slabs[0] = api.Slab{At: 72, Free: 3, First: 1200}
			s.Words[1200] = 1168
		}},
		{1, 1040, func(s *api.System) { dead(&s.Heap, 65); s.Heap.Lists[0].Pages = []int{67, 71, 65} }},
		{2, 1040, func(s *api.System) { dead(&s.Heap, 65); s.Heap.Lists = append(s.Heap.Lists, list(2, 1, 0, 65)) }},
		{0, 0, func(s *api.System) {
			dead(&s.Heap, 0)
			s.Heap.Lists = append([]api.List{list(0, 0, 1, 0)}, s.Heap.Lists...)
		}},
		{1, 4080, func(s *api.System) { dead(&s.Heap, 255); s.Heap.Lists = append(s.Heap.Lists, list(1, 1, 1, 255)) }},
		{0, 1216, func(s *api.System) { dead(&s.Heap, 76); s.Heap.Zones[1].Free = blocks(76, 2, 0, 96, 4, 1, 112, 4, 1) }},
		{2, 1280, func(s *api.System) { dead(&s.Heap, 80); s.Heap.Zones[1].Free = blocks(80, 4, 1, 96, 4, 1, 112, 4, 1) }},
	} {
		want := changed(s, c.then)
		wantMayBe(t, fmt.Sprint("Free ", c.addr), want)
		wantFree(t, s, c.cpu, c.addr, want, api.OK)
	}
}

// P6.5: a slab whose objects are all free goes back, by that processor, if there is one more.
func TestFreeSlab(t *testing.T) {
	s := changed(some(), func(s *api.System) {
		s.Caches[0].Active[0] = -1
		s.Caches[0].Slabs[0] = api.Slab{At: 64, Free: 3, First: 1036}
		chain(s.Words, 1036, 1028, 1032)
	})
	wantMayBe(t, "three are free", s)
	for cpu := range 3 {
		want, e := slab.Free(s, "four", cpu, 1024)
		if e != api.OK || len(want.Caches[0].Slabs) != 1 || slices.ContainsFunc(want.Heap.Live, func(b api.Block) bool { return b.At == 64 }) {
			t.Fatalf("slab.Free: %d, %s", int(e), tell(want))
		}
		wantFree(t, s, cpu, 1024, want, api.OK)
	}
}

// P6.5: what is wrong, and which of it comes first.
func TestFreeWrong(t *testing.T) {
	s, sizes, zero := some(), someSizes(), api.System{}
	for _, addr := range addresses() {
		if _, ok := sizes[addr]; !ok {
			wantFree(t, s, 0, addr, zero, api.ErrNone)
		}
	}
	for _, cpu := range append([]int{-1, 3, 4}, strange...) {
		for _, addr := range append([]int{1024, 1040, 1280, 0, 1025, 1028, 1088, 1120, -1, 4096}, strange...) {
			wantFree(t, s, cpu, addr, zero, api.ErrRange)
		}
	}
	for addr := range sizes {
		x, e := kmem.Free(s, 1, addr)
		if e != api.OK {
			t.Errorf("Free %d: %d, want OK", addr, int(e))
		}
		wantFree(t, x, 1, addr, zero, api.ErrNone)
		wantSize(t, x, addr, 0, api.ErrNone)
	}
}

// P6.6: all stays if there is room.
func TestResizeStays(t *testing.T) {
	s := some()
	for addr, size := range someSizes() {
		for n := 1; n <= size; n++ {
			for _, cpu := range []int{0, 2} {
				wantResize(t, s, cpu, addr, n, s, addr, api.OK)
			}
		}
	}
}

// P6.6: more words, elsewhere, with what was there; the old ones go back.
func TestResize(t *testing.T) {
	s := some()
	want := clone(s)
	want.Caches[3].Slabs[0] = api.Slab{At: 72, Free: 1, First: 1184}
	copy(want.Words[1168:], []int{11024, 11025, 11026, 11027})
	want.Caches[0].Slabs[0] = api.Slab{At: 64, Free: 3, First: 1024}
	want.Words[1024] = 1028
	for n := 5; n <= 16; n++ {
		wantResize(t, s, 2, 1024, n, want, 1168, api.OK)
	}
	for _, c := range [][4]int{
		// processor, address, its words, and how many are asked
		{0, 1024, 4, 16}, {1, 1032, 4, 33}, {0, 1152, 16, 40}, {2, 1200, 16, 256}, {0, 0, 16, 64}, {1, 1040, 16, 65}, {2, 1216, 64, 65}, {0, 1216, 64, 200}, {1, 4080, 16, 128},
	} {
		cpu, addr, size, n := c[0], c[1], c[2], c[3]
		x, to, e := askWords(s, cpu, n)
		if e != api.OK {
			t.Fatalf("%d words: %d", n, int(e))
		}
		copy(x.Words[to:], s.Words[addr:addr+size])
		want, e := kmem.Free(x, cpu, addr)
		if e != api.OK {
			t.Fatalf("Free %d: %d", addr, int(e))
		}
		wantResize(t, s, cpu, addr, n, want, to, api.OK)
		wantMayBe(t, "Resize", want)
		if !slices.Equal(want.Words[to:to+size], s.Words[addr:addr+size]) {
			t.Errorf("Resize %d to %d: other words", addr, n)
		}
	}
}

// P6.6: what is wrong, and which of it comes first.
func TestResizeWrong(t *testing.T) {
	s, sizes, zero := some(), someSizes(), api.System{}
	for _, addr := range addresses() {
		if _, ok := sizes[addr]; !ok {
			wantResize(t, s, -1, addr, 0, zero, 0, api.ErrNone)
			wantResize(t, s, 0, addr, 1, zero, 0, api.ErrNone)
		}
	}
	for addr := range sizes {
		for _, cpu := range append([]int{-1, 3, 4}, strange...) {
			for _, n := range append([]int{1, 4, 17, 100, 0, -1, 256, 257}, strange...) {
				wantResize(t, s, cpu, addr, n, zero, 0, api.ErrRange)
			}
		}
		for _, n := range append([]int{0, -1, 257, 512}, strange...) {
			want := api.ErrRange
			if n > 256 {
				want = api.ErrSize
			}
			wantResize(t, s, 1, addr, n, zero, 0, want)
		}
	}
	// What P6.3 refuses: there is no such cache, or no room; the old words do not count as room.
	wantResize(t, s, 0, 1024, 17, zero, 0, api.ErrNone)
	wantResize(t, s, 0, 1040, 17, zero, 0, api.ErrNone)
	full := changed(s, func(s *api.System) { s.Heap.Zones[1].Free = nil })
	wantMayBe(t, "full", full)
	wantResize(t, full, 0, 1024, 9, zero, 0, api.ErrRoom)
	wantResize(t, full, 0, 1216, 65, zero, 0, api.ErrRoom)
	wantResize(t, full, 0, 1216, 64, full, 1216, api.OK)
}
