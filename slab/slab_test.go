package slab_test

import (
	"fmt"
	"math"
	"slices"
	"strings"
	"testing"

	"paddock/api"
	"paddock/pages"
	"paddock/slab"
)

// blocks: the place, the order and the type of each.
func blocks(l ...int) []api.Block {
	var out []api.Block
	for i := 0; i < len(l); i += 3 {
		out = append(out, api.Block{At: l[i], Order: l[i+1], Type: l[i+2]})
	}
	return out
}

// slabs: the page, how many objects are free, and the first one of each.
func slabs(l ...int) []api.Slab {
	var out []api.Slab
	for i := 0; i < len(l); i += 3 {
		out = append(out, api.Slab{At: l[i], Free: l[i+1], First: l[i+2]})
	}
	return out
}

// empty system: pages from 32 on, of the second zone, that are all free; three processors; words that are all unlike, and no addresses.
func empty() api.System {
	h, _ := pages.New([]api.Region{{From: 32, Size: 224}}, 32, 0, 3)
	s := api.System{Words: make([]int, 4096), Heap: h}
	for i := range s.Words {
		s.Words[i] = 10000 + i
	}
	return s
}

// chain addresses through words.
func chain(w []int, l ...int) {
	for i, at := range l {
		w[at] = -1
		if i > 0 {
			w[l[i-1]] = at
		}
	}
}

// some system: caches a (with b) of 4 words, and big (with c) of 20; pages 32, 34, 36, 38 and 40 are slabs of the first one, 44 and 52 of the second one.
func some() api.System {
	s := empty()
	s.Heap.Zones[1].Free = blocks(56, 3, 1, 64, 4, 1, 80, 4, 1)
	s.Heap.Lists = []api.List{{Cpu: 1, Zone: 1, Type: 0, Pages: []int{33, 35}}}
	s.Heap.Live = blocks(32, 0, 0, 34, 0, 0, 36, 0, 1, 38, 0, 0, 40, 0, 2, 44, 2, 0, 48, 2, 0, 52, 2, 0)
	s.Caches = []api.Cache{
		{Names: []string{"a", "b"}, Size: 4, Per: 4, Order: 0, Slabs: slabs(32, 0, -1, 34, 2, 556, 36, 3, 584, 38, 4, 608, 40, 1, 644), Active: []int{36, -1, 32}},
		{Names: []string{"big", "c"}, Size: 20, Per: 3, Order: 2, Slabs: slabs(44, 1, 724, 52, 3, 872), Active: []int{-1, -1, 52}},
	}
	chain(s.Words, 556, 548)
	chain(s.Words, 584, 588, 576)
	chain(s.Words, 608, 612, 616, 620)
	chain(s.Words, 644)
	chain(s.Words, 724)
	chain(s.Words, 872, 832, 852)
	return s
}

// P5.1: all sizes, and those just outside.
func TestLayout(t *testing.T) {
	for size := -3; size < 70; size++ {
		o, n, e := slab.Layout(size)
		if size < 1 || size > 64 {
			if o != 0 || n != 0 || e != api.ErrRange {
				t.Errorf("Layout %d: %d, %d, %d; want 0, 0, ErrRange", size, o, n, int(e))
			}
			continue
		}
		if o != orderOf(size) || n != perSlab(size) || e != api.OK {
			t.Errorf("Layout %d: %d, %d, %d; want %d, %d", size, o, n, int(e), orderOf(size), perSlab(size))
		}
	}
	for _, c := range [][3]int{{1, 0, 16}, {3, 0, 5}, {4, 0, 4}, {5, 1, 6}, {8, 1, 4}, {9, 2, 7}, {16, 2, 4}, {17, 2, 3}, {32, 2, 2}, {33, 2, 1}, {64, 2, 1}} {
		if o, n, e := slab.Layout(c[0]); o != c[1] || n != c[2] || e != api.OK {
			t.Errorf("Layout %d: %d, %d, %d; want %d, %d", c[0], o, n, int(e), c[1], c[2])
		}
	}
	for _, size := range append([]int{65, 0}, strange...) {
		if o, n, e := slab.Layout(size); o != 0 || n != 0 || e != api.ErrRange {
			t.Errorf("Layout %d: %d, %d, %d; want 0, 0, ErrRange", size, o, n, int(e))
		}
	}
}

// P5.2: which texts are names: asked of Create and of Check.
func TestNames(t *testing.T) {
	good := []string{"a", "z", "0", "9", "k32", "abcdefgh", "00000000", "z9z9z9z9", "m"}
	bad := []string{"", "abcdefghi", "A", "Z", "aB", " ", "a ", " a", "a-b", "a_b", "`", "{", "/", ":", "@", "[", "ä", "aé", "ａ", "١", "a\x00", "\x00", "\xff", "a\n", "ab\xc3", strings.Repeat("a", 300)}
	for b := range 256 {
		n := string([]byte{'x', byte(b)})
		if b >= '0' && b <= '9' || b >= 'a' && b <= 'z' {
			good = append(good, n)
		} else {
			bad = append(bad, n)
		}
	}
	for _, n := range good {
		want := empty()
		want.Caches = []api.Cache{{Names: []string{n}, Size: 2, Per: 8, Active: []int{-1, -1, -1}}}
		wantCreate(t, empty(), n, 2, 1, want, api.OK)
		if e := slab.Check(want); e != api.OK {
			t.Errorf("Check with the name %q: %d", n, int(e))
		}
	}
	for _, n := range bad {
		wantCreate(t, empty(), n, 2, 1, api.System{}, api.ErrForm)
		s := empty()
		s.Caches = []api.Cache{{Names: []string{n}, Size: 2, Per: 8, Active: []int{-1, -1, -1}}}
		if e := slab.Check(s); e != api.ErrState {
			t.Errorf("Check with the name %q: %d", n, int(e))
		}
	}
}

// mayBe: what is otherwise, and still may be.
func mayBe() map[string]func(s *api.System) {
	return map[string]func(s *api.System){
		"nothing":                         func(s *api.System) {},
		"no caches":                       func(s *api.System) { s.Caches = nil },
		"no slabs":                        func(s *api.System) { s.Caches[0].Slabs, s.Caches[0].Active = nil, []int{-1, -1, -1} },
		"one processor":                   func(s *api.System) { s.Heap.Cpus, s.Heap.Lists = 1, nil; short(s, 1) },
		"others take":                     func(s *api.System) { s.Caches[0].Active = []int{40, 38, 34} },
		"nobody takes":                    func(s *api.System) { s.Caches[0].Active = []int{-1, -1, -1} },
		"words of live objects":           func(s *api.System) { s.Words[512], s.Words[580] = -1, 584 },
		"words within free objects":       func(s *api.System) { s.Words[557], s.Words[559] = -1, math.MinInt },
		"words of no object":              func(s *api.System) { s.Words[0], s.Words[767], s.Words[4095] = -7, math.MaxInt, 5000 },
		"a word behind the last object":   func(s *api.System) { s.Words[764] = 999999 },
		"one that is not free any more":   func(s *api.System) { s.Caches[0].Slabs[4] = api.Slab{At: 40, First: -1} },
		"a slab less":                     func(s *api.System) { s.Caches[0].Slabs = s.Caches[0].Slabs[:4] },
		"a slab more":                     func(s *api.System) { s.Caches[1].Slabs = slabs(44, 1, 724, 48, 0, -1, 52, 3, 872) },
		"the other type":                  func(s *api.System) { s.Heap.Live[0].Type = 2 },
		"one name":                        func(s *api.System) { s.Caches[0].Names = []string{"b"} },
		"names of the other cache before": func(s *api.System) { s.Caches[1].Names = []string{"0", "a0", "zzzzzzzz"} },
		"the other order of caches":       func(s *api.System) { slices.Reverse(s.Caches) },
		"twenty caches":                   func(s *api.System) { addCaches(s, 18) },
	}
}

// short: so many processors.
func short(s *api.System, cpus int) {
	for i := range s.Caches {
		s.Caches[i].Active = s.Caches[i].Active[:cpus]
	}
}

// addCaches without slabs, of 40 words and more.
func addCaches(s *api.System, n int) {
	for i := range n {
		s.Caches = append(s.Caches, api.Cache{Names: []string{fmt.Sprint("x", i)}, Size: 40 + i, Per: 1, Order: 2, Active: slices.Repeat([]int{-1}, s.Heap.Cpus)})
	}
}

// mayNotBe: what is otherwise, so that it may not be.
func mayNotBe() map[string]func(s *api.System) {
	m := map[string]func(s *api.System){
		"no words":                     func(s *api.System) { s.Words = nil },
		"a word less":                  func(s *api.System) { s.Words = s.Words[:4095] },
		"a word more":                  func(s *api.System) { s.Words = append(s.Words, 0) },
		"no heap":                      func(s *api.System) { s.Heap = api.Heap{} },
		"a heap that may not be":       func(s *api.System) { s.Heap.Mins[0] = -1 },
		"21 caches":                    func(s *api.System) { addCaches(s, 19) },
		"a size of 0":                  func(s *api.System) { s.Caches[1] = api.Cache{Names: []string{"c"}, Active: []int{-1, -1, -1}} },
		"another size":                 func(s *api.System) { s.Caches[0].Size = 5 },
		"another size of the same per": func(s *api.System) { s.Caches[1].Size = 21 },
		"per is less":                  func(s *api.System) { s.Caches[0].Per = 3 },
		"per is more":                  func(s *api.System) { s.Caches[1].Per = 4 },
		"another order":                func(s *api.System) { s.Caches[0].Order = 1 },
		"a greater order, no slabs":    func(s *api.System) { addCaches(s, 1); s.Caches[2].Order = 3 },
		"a lesser order, no slabs":     func(s *api.System) { addCaches(s, 1); s.Caches[2].Order = 1 },
		"per is less, no slabs":        func(s *api.System) { addCaches(s, 1); s.Caches[2].Per = 0 },
		"per is more, no slabs":        func(s *api.System) { addCaches(s, 1); s.Caches[2].Per = 2 },
		"an order below 0":             func(s *api.System) { s.Caches[0].Order = -1 },
		"no names":                     func(s *api.System) { s.Caches[0].Names = nil },
		"an empty name":                func(s *api.System) { s.Caches[0].Names = []string{"", "a"} },
		"no name":                      func(s *api.System) { s.Caches[0].Names[1] = "bB" },
		"names fall":                   func(s *api.System) { s.Caches[0].Names = []string{"b", "a"} },
		"a name twice in a cache":      func(s *api.System) { s.Caches[0].Names = []string{"a", "a"} },
		"a name in two caches":         func(s *api.System) { s.Caches[1].Names = []string{"b", "big"} },
		"another name in two caches":   func(s *api.System) { s.Caches[0].Names = []string{"a", "c"} },
		"a size twice":                 func(s *api.System) { addCaches(s, 2); s.Caches[3].Size = 40 },
		"a size twice, far apart": func(s *api.System) {
			s.Caches = append(s.Caches, api.Cache{Names: []string{"zz"}, Size: 4, Per: 4, Active: []int{-1, -1, -1}})
		},
		"no Active":                          func(s *api.System) { s.Caches[0].Active = nil },
		"an Active less":                     func(s *api.System) { s.Caches[1].Active = s.Caches[1].Active[:2] },
		"an Active more":                     func(s *api.System) { s.Caches[1].Active = append(s.Caches[1].Active, -1) },
		"Active -2":                          func(s *api.System) { s.Caches[0].Active[1] = -2 },
		"Active: a slab's place in the list": func(s *api.System) { s.Caches[0].Active[1] = 1 },
		"Active: no slab":                    func(s *api.System) { s.Caches[0].Active[1] = 33 },
		"Active: a slab of another cache":    func(s *api.System) { s.Caches[0].Active[1] = 44 },
		"Active: within a slab":              func(s *api.System) { s.Caches[1].Active[1] = 45 },
		"two take from one slab":             func(s *api.System) { s.Caches[0].Active[1] = 36 },
		"slabs fall": func(s *api.System) {
			s.Caches[0].Slabs[1], s.Caches[0].Slabs[2] = s.Caches[0].Slabs[2], s.Caches[0].Slabs[1]
		},
		"a slab twice":                 func(s *api.System) { s.Caches[0].Slabs[0] = s.Caches[0].Slabs[1] },
		"a slab that is free":          func(s *api.System) { s.Caches[0].Slabs[4] = api.Slab{At: 56, First: -1} },
		"a slab on a list":             func(s *api.System) { s.Caches[0].Slabs[0], s.Caches[0].Active[2] = api.Slab{At: 33, First: -1}, -1 },
		"a slab in no place":           func(s *api.System) { s.Caches[0].Slabs[4] = api.Slab{At: 42, First: -1} },
		"a slab within a block":        func(s *api.System) { s.Caches[0].Slabs[4] = api.Slab{At: 45, First: -1} },
		"a slab of a greater block":    func(s *api.System) { s.Caches[0].Slabs[4] = api.Slab{At: 48, First: -1} },
		"a slab of a smaller block":    func(s *api.System) { s.Caches[1].Slabs[0] = api.Slab{At: 40, First: -1} },
		"a slab at -1":                 func(s *api.System) { s.Caches[0].Slabs[0].At = -1 },
		"a slab behind all pages":      func(s *api.System) { s.Caches[0].Slabs[4].At = 256 },
		"one slab of two caches":       func(s *api.System) { addCaches(s, 1); s.Caches[2].Slabs = slabs(44, 0, -1) },
		"one more is free":             func(s *api.System) { s.Caches[0].Slabs[1].Free = 3 },
		"one less is free":             func(s *api.System) { s.Caches[0].Slabs[1].Free = 1 },
		"free: -1":                     func(s *api.System) { s.Caches[0].Slabs[0].Free = -1 },
		"none is free, but a chain":    func(s *api.System) { s.Caches[0].Slabs[1].Free = 0 },
		"some are free, but no chain":  func(s *api.System) { s.Caches[0].Slabs[1].First = -1 },
		"the chain begins elsewhere":   func(s *api.System) { s.Caches[0].Slabs[1].First = 548 },
		"the chain begins at -2":       func(s *api.System) { s.Caches[0].Slabs[0].First = -2 },
		"the chain begins at 0":        func(s *api.System) { s.Caches[0].Slabs[0].First = 0 },
		"the chain begins within one":  func(s *api.System) { s.Caches[0].Slabs[4].First = 645; s.Words[645] = -1 },
		"the chain goes within one":    func(s *api.System) { s.Words[556], s.Words[549] = 549, -1 },
		"the chain goes round":         func(s *api.System) { s.Words[548] = 556 },
		"the chain goes on":            func(s *api.System) { s.Words[548], s.Words[544] = 544, -1 },
		"the chain ends":               func(s *api.System) { s.Words[556] = -1 },
		"the chain leaves the words":   func(s *api.System) { s.Words[556] = 4096 },
		"the chain ends by -2":         func(s *api.System) { s.Words[548] = -2 },
		"the chain goes to another":    func(s *api.System) { s.Words[556], s.Words[640] = 640, -1 },
		"the chain goes behind all":    func(s *api.System) { s.Words[872], s.Words[892], s.Caches[1].Slabs[1].Free = 892, -1, 2 },
		"a chain of no one's words":    func(s *api.System) { s.Words[556], s.Words[8] = 8, -1 },
		"a chain of the one before":    func(s *api.System) { s.Caches[0].Slabs[1] = api.Slab{At: 34, Free: 1, First: 540}; s.Words[540] = -1 },
		"an object behind a slab":      func(s *api.System) { s.Caches[0].Slabs[4] = api.Slab{At: 40, Free: 1, First: 656}; s.Words[656] = -1 },
		"an object of the other cache": func(s *api.System) { s.Caches[0].Slabs[4].First = 724 },
	}
	for _, n := range strange {
		m[fmt.Sprint("size ", n)] = func(s *api.System) { s.Caches[0].Size = n }
		m[fmt.Sprint("per ", n)] = func(s *api.System) { s.Caches[0].Per = n }
		m[fmt.Sprint("order ", n)] = func(s *api.System) { s.Caches[1].Order = n }
		m[fmt.Sprint("order without slabs ", n)] = func(s *api.System) { addCaches(s, 1); s.Caches[2].Order = n }
		m[fmt.Sprint("slab at ", n)] = func(s *api.System) { s.Caches[1].Slabs[0].At = n }
		m[fmt.Sprint("last slab at ", n)] = func(s *api.System) { s.Caches[1].Slabs[1].At = n }
		m[fmt.Sprint("free ", n)] = func(s *api.System) { s.Caches[1].Slabs[0].Free = n }
		m[fmt.Sprint("first ", n)] = func(s *api.System) { s.Caches[1].Slabs[0].First = n }
		m[fmt.Sprint("active ", n)] = func(s *api.System) { s.Caches[1].Active[0] = n }
		m[fmt.Sprint("cpus ", n)] = func(s *api.System) { s.Heap.Cpus = n }
		m[fmt.Sprint("next ", n)] = func(s *api.System) { s.Words[724] = n }
	}
	return m
}

// P5.3, P5.4: what may be, and what may not.
func TestCheck(t *testing.T) {
	for name, how := range mayBe() {
		if e := slab.Check(changed(some(), how)); e != api.OK {
			t.Errorf("Check with %s: %d, want OK", name, int(e))
		}
	}
	for name, how := range mayNotBe() {
		if e := slab.Check(changed(some(), how)); e != api.ErrState {
			t.Errorf("Check with %s: %d, want ErrState", name, int(e))
		}
	}
	if e := slab.Check(api.System{}); e != api.ErrState {
		t.Errorf("Check of nothing: %d, want ErrState", int(e))
	}
	if e := slab.Check(empty()); e != api.OK {
		t.Errorf("Check without caches: %d, want OK", int(e))
	}
	d := die(501)
	for range 300 {
		s := d.system()
		if e := slab.Check(s); e != api.OK {
			t.Errorf("Check of a drawn system: %d, want OK: %s", int(e), tell(s))
		}
	}
}

// P5.3: of all objects of a slab, in all orders and numbers, the chain has so many as are said to be free.
func TestCheckChains(t *testing.T) {
	for many := range 4 {
		for free := range 5 {
			for at := range 20 {
				s := some()
				l := []int{832, 852, 872}[:many]
				if many > 0 {
					l[many-1] = 826 + 3*at
				}
				// Behind an object twice, or one that is none, there is no chain to be laid.
				if many > 1 && slices.Contains(l[:many-1], l[many-1]) {
					continue
				}
				chain(s.Words, l...)
				s.Caches[1].Slabs[1] = api.Slab{At: 52, Free: free, First: -1}
				if many > 0 {
					s.Caches[1].Slabs[1].First = l[0]
				}
				want := api.ErrState
				if free == many && (many == 0 || slices.Contains([]int{832, 852, 872}, l[many-1])) {
					want = api.OK
				}
				if e := slab.Check(s); e != want {
					t.Errorf("Check with the chain %v, %d free: %d, want %d", l, free, int(e), int(want))
				}
			}
		}
	}
}

// P5.4: the same system, also one that may not be.
func TestCopy(t *testing.T) {
	l := []api.System{{}, some(), empty(), {Words: []int{1}, Caches: []api.Cache{{}, {Names: []string{"?"}, Size: -1, Per: -2, Order: -3, Slabs: slabs(-1, -2, -3), Active: []int{9}}}}}
	for _, how := range mayNotBe() {
		l = append(l, changed(some(), how))
	}
	for _, s := range l {
		wantSystem(t, "Copy", slab.Copy(s), api.OK, s, api.OK)
	}
}

// P5.4: all others refuse what may not be, ahead of all else.
func TestStateFirst(t *testing.T) {
	zero, refused := api.System{}, api.ErrState
	for _, how := range mayNotBe() {
		s := changed(some(), how)
		for _, n := range []string{"a", "", "nobody"} {
			for _, cpu := range []int{0, -1} {
				for _, size := range []int{1, 65} {
					wantCreate(t, s, n, size, 1+cpu, zero, refused)
					wantBulk(t, s, n, cpu, size*5, zero, nil, refused)
				}
				wantAlloc(t, s, n, cpu, zero, 0, refused)
				wantFree(t, s, n, cpu, 512, zero, refused)
				wantFree(t, s, n, cpu, -1, zero, refused)
			}
			wantShrink(t, s, n, zero, refused)
			wantDestroy(t, s, n, zero, refused)
		}
		wantFind(t, s, 512, 0, 0, refused)
		wantFind(t, s, -1, 0, 0, refused)
	}
}

// P5.4: then a name that no cache has, then a processor that is none.
func TestNameThenProcessor(t *testing.T) {
	s, zero := some(), api.System{}
	for _, cpu := range append([]int{-1, 3, 4, 0, 2}, strange...) {
		for _, n := range []string{"", "A", "d", "bi", "bigg", "nobody", "b ", strings.Repeat("a", 99)} {
			wantAlloc(t, s, n, cpu, zero, 0, api.ErrNone)
			wantBulk(t, s, n, cpu, 1, zero, nil, api.ErrNone)
			wantBulk(t, s, n, cpu, 0, zero, nil, api.ErrNone)
			wantFree(t, s, n, cpu, 512, zero, api.ErrNone)
			wantShrink(t, s, n, zero, api.ErrNone)
			wantDestroy(t, s, n, zero, api.ErrNone)
		}
		if cpu == 0 || cpu == 2 {
			continue
		}
		for _, n := range []string{"a", "b", "c", "big"} {
			wantAlloc(t, s, n, cpu, zero, 0, api.ErrRange)
			wantBulk(t, s, n, cpu, 1, zero, nil, api.ErrRange)
			wantFree(t, s, n, cpu, 512, zero, api.ErrRange)
			wantFree(t, s, n, cpu, 5, zero, api.ErrRange)
		}
	}
}

// P5.5: a new cache, behind all others.
func TestCreate(t *testing.T) {
	for _, c := range []struct{ size, align, want int }{
		{1, 1, 1}, {1, 2, 2}, {1, 8, 8}, {2, 1, 2}, {5, 1, 5}, {5, 4, 8}, {7, 2, 8}, {8, 8, 8}, {9, 8, 16}, {17, 8, 24},
		{33, 4, 36}, {63, 1, 63}, {63, 2, 64}, {63, 8, 64}, {64, 1, 64}, {64, 8, 64}, {57, 8, 64}, {61, 4, 64}, {13, 4, 16},
	} {
		want := some()
		want.Caches = append(want.Caches, api.Cache{Names: []string{"aa"}, Size: c.want, Per: perSlab(c.want), Order: orderOf(c.want), Active: []int{-1, -1, -1}})
		wantCreate(t, some(), "aa", c.size, c.align, want, api.OK)
		wantMayBe(t, "Create", want)
	}
	one := changed(empty(), func(s *api.System) { s.Heap.Cpus = 1 })
	want := clone(one)
	want.Caches = []api.Cache{{Names: []string{"z"}, Size: 12, Per: 5, Order: 2, Active: []int{-1}}}
	wantCreate(t, one, "z", 11, 2, want, api.OK)
}

// P5.5: another name of a cache with that size, where it rises.
func TestCreateName(t *testing.T) {
	for _, c := range []struct {
		n           string
		size, align int
		names       [2][]string
	}{
		{"0", 4, 1, [2][]string{{"0", "a", "b"}, {"big", "c"}}},
		{"aa", 3, 2, [2][]string{{"a", "aa", "b"}, {"big", "c"}}},
		{"zz", 1, 4, [2][]string{{"a", "b", "zz"}, {"big", "c"}}},
		{"bigger", 20, 4, [2][]string{{"a", "b"}, {"big", "bigger", "c"}}},
		{"bi", 17, 4, [2][]string{{"a", "b"}, {"bi", "big", "c"}}},
		{"d", 19, 2, [2][]string{{"a", "b"}, {"big", "c", "d"}}},
	} {
		want := some()
		want.Caches[0].Names, want.Caches[1].Names = c.names[0], c.names[1]
		wantCreate(t, some(), c.n, c.size, c.align, want, api.OK)
	}
}

// P5.5: what is wrong, and which of it comes first.
func TestCreateWrong(t *testing.T) {
	s, zero := some(), api.System{}
	aligns := append([]int{0, 3, 5, 6, 7, 9, 16, 32, 64, -1, -2, -4, -8}, strange...)
	sizes := append([]int{0, -1, 65, 66, 72}, strange...)
	for _, align := range aligns {
		for _, size := range []int{4, 0, 65, math.MinInt, math.MaxInt} {
			for _, n := range []string{"new", "a", ""} {
				wantCreate(t, s, n, size, align, zero, api.ErrForm)
			}
		}
	}
	for _, size := range sizes {
		for _, align := range []int{1, 2, 4, 8} {
			wantCreate(t, s, "", size, align, zero, api.ErrForm)
			wantCreate(t, s, "new", size, align, zero, api.ErrRange)
			wantCreate(t, s, "a", size, align, zero, api.ErrRange)
		}
	}
	for _, n := range []string{"a", "b", "big", "c"} {
		for _, size := range []int{1, 4, 20, 64} {
			wantCreate(t, s, n, size, 4, zero, api.ErrTwice)
		}
	}
}

// P5.5: there are no more than MaxCaches; another name needs none.
func TestCreateMany(t *testing.T) {
	s := some()
	for i := range 18 {
		x, e := slab.Create(s, fmt.Sprint("x", i), 40+i, 1)
		if e != api.OK || len(x.Caches) != 3+i {
			t.Fatalf("cache %d: %d, of %d", 3+i, int(e), len(x.Caches))
		}
		s = x
	}
	wantMayBe(t, "twenty caches", s)
	wantCreate(t, s, "y", 39, 1, api.System{}, api.ErrSize)
	wantCreate(t, s, "y", 64, 8, api.System{}, api.ErrSize)
	wantCreate(t, s, "x3", 39, 1, api.System{}, api.ErrTwice)
	wantCreate(t, s, "y", 65, 1, api.System{}, api.ErrRange)
	wantCreate(t, s, "y", 39, 3, api.System{}, api.ErrForm)
	want := clone(s)
	want.Caches[19].Names = []string{"x17", "y"}
	wantCreate(t, s, "y", 57, 1, want, api.OK)
}

// P5.6: of the slab from which the processor takes, though a lower one has free objects, too.
func TestAllocOwn(t *testing.T) {
	s := some()
	want := clone(s)
	want.Caches[0].Slabs[2] = api.Slab{At: 36, Free: 2, First: 588}
	for _, n := range []string{"a", "b"} {
		wantAlloc(t, s, n, 0, want, 584, api.OK)
	}
	next := clone(want)
	next.Caches[0].Slabs[2] = api.Slab{At: 36, Free: 1, First: 576}
	wantAlloc(t, want, "a", 0, next, 588, api.OK)
	last := clone(next)
	last.Caches[0].Slabs[2] = api.Slab{At: 36, Free: 0, First: -1}
	wantAlloc(t, next, "a", 0, last, 576, api.OK)
	// Then another one.
	other := clone(last)
	other.Caches[0].Slabs[1] = api.Slab{At: 34, Free: 1, First: 548}
	other.Caches[0].Active[0] = 34
	wantAlloc(t, last, "a", 0, other, 556, api.OK)
}

// P5.6: the lowest one that has free objects, and from which nobody takes.
func TestAllocLowest(t *testing.T) {
	for _, c := range []struct {
		active, then []int
		cpu, slab    int
		left         api.Slab
		at           int
	}{
		{[]int{36, -1, 32}, []int{36, 34, 32}, 1, 1, api.Slab{At: 34, Free: 1, First: 548}, 556},
		{[]int{36, -1, 32}, []int{36, -1, 34}, 2, 1, api.Slab{At: 34, Free: 1, First: 548}, 556},
		{[]int{34, -1, 32}, []int{34, 36, 32}, 1, 2, api.Slab{At: 36, Free: 2, First: 588}, 584},
		{[]int{34, 36, 32}, []int{34, 36, 38}, 2, 3, api.Slab{At: 38, Free: 3, First: 612}, 608},
		{[]int{36, -1, 34}, []int{36, 38, 34}, 1, 3, api.Slab{At: 38, Free: 3, First: 612}, 608},
		{[]int{-1, -1, 34}, []int{36, -1, 34}, 0, 2, api.Slab{At: 36, Free: 2, First: 588}, 584},
		{[]int{-1, 40, -1}, []int{-1, 40, -1}, 1, 4, api.Slab{At: 40, Free: 0, First: -1}, 644},
	} {
		s := some()
		s.Caches[0].Active = c.active
		want := clone(s)
		want.Caches[0].Active = c.then
		want.Caches[0].Slabs[c.slab] = c.left
		wantAlloc(t, s, "a", c.cpu, want, c.at, api.OK)
	}
	s := some()
	want := clone(s)
	want.Caches[1].Slabs[0], want.Caches[1].Active[1] = api.Slab{At: 44, Free: 0, First: -1}, 44
	wantAlloc(t, s, "c", 1, want, 724, api.OK)
	// Those from which others take are left alone, though they are all that have free objects.
	s = want
	want = clone(s)
	want.Heap, _, _ = pages.Alloc(s.Heap, 0, 2, 0)
	want.Caches[1].Slabs = slabs(44, 0, -1, 52, 3, 872, 64, 2, 1044)
	want.Caches[1].Active = []int{64, 44, 52}
	chain(want.Words, 1024, 1044, 1064)
	wantAlloc(t, s, "c", 0, want, 1024, api.OK)
}

// P5.6: a new slab, whose objects are chained, the lowest ones first; its pages are of the type Fixed.
func TestAllocNew(t *testing.T) {
	s := empty()
	s, _ = slab.Create(s, "five", 5, 1)
	s, _ = slab.Create(s, "most", 64, 1)
	want := clone(s)
	want.Caches[0].Slabs, want.Caches[0].Active = slabs(32, 5, 517), []int{-1, 32, -1}
	want.Heap.Live = blocks(32, 1, 0)
	want.Heap.Zones[1].Free = slices.Replace(want.Heap.Zones[1].Free, 0, 1, blocks(34, 1, 0, 36, 2, 0, 40, 3, 0)...)
	want.Heap.Zones[1].Types[0], want.Heap.Zones[1].Types[1] = 0, 0
	chain(want.Words, 512, 517, 522, 527, 532, 537)
	wantAlloc(t, s, "five", 1, want, 512, api.OK)
	s = want
	want = clone(s)
	want.Caches[1].Slabs, want.Caches[1].Active = slabs(36, 0, -1), []int{-1, -1, 36}
	want.Heap.Live = blocks(32, 1, 0, 36, 2, 0)
	want.Heap.Zones[1].Free = slices.Delete(want.Heap.Zones[1].Free, 1, 2)
	want.Words[576] = -1
	wantAlloc(t, s, "most", 2, want, 576, api.OK)
	// Single pages come by the list of the processor; the new slab stands by its place, ahead of others.
	s = some()
	s.Caches[0].Slabs = slabs(34, 0, -1, 36, 0, -1, 38, 0, -1, 40, 0, -1)
	s.Caches[0].Active = []int{40, 34, -1}
	want = clone(s)
	want.Heap.Lists[0].Pages = []int{33}
	want.Heap.Live = slices.Insert(want.Heap.Live, 2, api.Block{At: 35})
	want.Caches[0].Slabs = slabs(34, 0, -1, 35, 3, 564, 36, 0, -1, 38, 0, -1, 40, 0, -1)
	want.Caches[0].Active = []int{40, 35, -1}
	chain(want.Words, 560, 564, 568, 572)
	wantAlloc(t, s, "b", 1, want, 560, api.OK)
}

// P5.6: what pages refuse is refused: what is held back, and what there is not.
func TestAllocRoom(t *testing.T) {
	s := some()
	s.Caches[1].Slabs, s.Heap.Lists = slabs(44, 0, -1, 52, 0, -1), nil
	for _, c := range []struct {
		held int
		free []api.Block
		want api.Errno
	}{
		{0, nil, api.ErrRoom},
		{0, blocks(56, 1, 0, 60, 1, 0, 64, 0, 0), api.ErrRoom},
		{0, blocks(56, 2, 0), api.OK},
		{1, blocks(56, 2, 0), api.ErrRoom},
		{1, blocks(56, 2, 0, 64, 0, 0), api.OK},
	} {
		s.Heap.Zones[1].Free, s.Heap.Mins[1] = c.free, c.held
		x, at, e := slab.Alloc(s, "c", 0)
		if e != c.want {
			t.Errorf("Alloc with %v, %d held back: %d, want %d", c.free, c.held, int(e), int(c.want))
		}
		if e != api.OK && (at != 0 || !same(x, api.System{})) {
			t.Errorf("Alloc with %v: %d, %s with an error", c.free, at, tell(x))
		}
		// An object that is there needs no pages.
		if _, at, e := slab.Alloc(s, "a", 0); at != 584 || e != api.OK {
			t.Errorf("Alloc of what is there: %d, %d", at, int(e))
		}
	}
}

// P5.6: drawn systems, all caches and processors.
func TestAllocDrawn(t *testing.T) {
	d := die(506)
	for range 150 {
		s := d.system()
		for _, c := range s.Caches {
			for cpu := range s.Heap.Cpus {
				n := c.Names[d.n(len(c.Names))]
				m := modelOf(s)
				at, f := m.alloc(n, cpu)
				wantAlloc(t, s, n, cpu, m.answered(f), at, f)
				if f == api.OK {
					wantMayBe(t, "Alloc", m.system())
				}
			}
		}
	}
}

// P5.7: so many objects, in the order in which they are taken.
func TestBulk(t *testing.T) {
	s := some()
	want := clone(s)
	want.Caches[0].Slabs = slabs(32, 0, -1, 34, 0, -1, 36, 0, -1, 38, 3, 612, 40, 1, 644)
	want.Caches[0].Active = []int{38, -1, 32}
	wantBulk(t, s, "b", 0, 6, want, []int{584, 588, 576, 556, 548, 608}, api.OK)
	want = clone(s)
	want.Caches[0].Slabs[2] = api.Slab{At: 36, Free: 2, First: 588}
	wantBulk(t, s, "a", 0, 1, want, []int{584}, api.OK)
	// As many as there can be, of one word: sixteen pages; after each first one of four the last one of the list comes first.
	s = empty()
	s, _ = slab.Create(s, "w", 1, 1)
	var l []int
	for i := range 256 {
		page := 32 + i/64*4 + []int{0, 3, 2, 1}[i/16%4]
		l = append(l, page*16+i%16)
	}
	m := modelOf(s)
	if _, e := m.bulk("w", 2, 256); e != api.OK {
		t.Fatal(int(e))
	}
	wantBulk(t, s, "w", 2, 256, m.system(), l, api.OK)
}

// P5.7: all, or none.
func TestBulkNone(t *testing.T) {
	s := empty()
	s.Heap.Zones[1].Free = blocks(32, 2, 1, 64, 1, 1)
	s, _ = slab.Create(s, "x", 16, 1)
	for many := 1; many <= 4; many++ {
		m := modelOf(s)
		l, e := m.bulk("x", 0, many)
		if e != api.OK {
			t.Fatal(int(e))
		}
		wantBulk(t, s, "x", 0, many, m.system(), l, api.OK)
	}
	for _, many := range []int{5, 6, 255, 256} {
		wantBulk(t, s, "x", 0, many, api.System{}, nil, api.ErrRoom)
	}
}

// P5.7: wrong numbers; a name and a processor that are none come first.
func TestBulkWrong(t *testing.T) {
	s, zero := some(), api.System{}
	s.Heap.Zones[1].Free = nil
	for _, many := range append([]int{0, -1, 257, 258}, strange...) {
		wantBulk(t, s, "a", 0, many, zero, nil, api.ErrRange)
		wantBulk(t, s, "a", 9, many, zero, nil, api.ErrRange)
		wantBulk(t, s, "none", 0, many, zero, nil, api.ErrNone)
	}
	wantBulk(t, s, "a", 0, 256, zero, nil, api.ErrRoom)
	wantBulk(t, s, "none", 0, 256, zero, nil, api.ErrNone)
}

// P5.7: drawn systems.
func TestBulkDrawn(t *testing.T) {
	d := die(507)
	for range 300 {
		s := d.system()
		n, cpu, many := d.name(s), d.n(s.Heap.Cpus+1), d.n(1+d.n(60))
		m := modelOf(s)
		l, f := m.bulk(n, cpu, many)
		wantBulk(t, s, n, cpu, many, m.answered(f), l, f)
	}
}

// P5.8: the places of caches and of slabs, both from 0 on.
func TestFind(t *testing.T) {
	s := some()
	found := map[int][2]int{
		512: {0, 0}, 516: {0, 0}, 520: {0, 0}, 524: {0, 0}, 544: {0, 1}, 552: {0, 1}, 580: {0, 2}, 640: {0, 4}, 648: {0, 4}, 652: {0, 4},
		704: {1, 0}, 744: {1, 0},
	}
	for addr := -100; addr < 4200; addr++ {
		if p, ok := found[addr]; ok {
			wantFind(t, s, addr, p[0], p[1], api.OK)
		} else {
			wantFind(t, s, addr, 0, 0, api.ErrNone)
		}
	}
	for _, addr := range strange {
		wantFind(t, s, addr, 0, 0, api.ErrNone)
	}
	// The word of an object that is not free tells nothing, also if it looks like a chain's.
	s.Words[512], s.Words[544], s.Words[580] = -1, 556, 584
	wantFind(t, s, 512, 0, 0, api.OK)
	wantFind(t, s, 544, 0, 1, api.OK)
	wantFind(t, s, 580, 0, 2, api.OK)
	d := die(508)
	for range 25 {
		s := d.system()
		m := modelOf(s)
		for addr := -20; addr < 4120; addr += 1 + d.n(2) {
			i, k, _, f := m.find(addr)
			wantFind(t, s, addr, i, k, f)
		}
	}
}

// P5.9: the first one of its slab's chain.
func TestFree(t *testing.T) {
	s := some()
	for _, c := range []struct {
		n          string
		addr, i, k int
		slab       api.Slab
		next       int
	}{
		{"a", 544, 0, 1, api.Slab{At: 34, Free: 3, First: 544}, 556},
		{"b", 552, 0, 1, api.Slab{At: 34, Free: 3, First: 552}, 556},
		{"a", 524, 0, 0, api.Slab{At: 32, Free: 1, First: 524}, -1},
		{"b", 652, 0, 4, api.Slab{At: 40, Free: 2, First: 652}, 644},
		{"a", 580, 0, 2, api.Slab{At: 36, Free: 4, First: 580}, 584},
		{"big", 744, 1, 0, api.Slab{At: 44, Free: 2, First: 744}, 724},
		{"c", 704, 1, 0, api.Slab{At: 44, Free: 2, First: 704}, 724},
	} {
		want := clone(s)
		want.Caches[c.i].Slabs[c.k] = c.slab
		want.Words[c.addr] = c.next
		for cpu := range 3 {
			wantFree(t, s, c.n, cpu, c.addr, want, api.OK)
		}
		wantMayBe(t, "Free", want)
	}
}

// P5.9: pages go back if all objects of that slab are free, nobody takes from it, and there is another such one.
func TestFreePages(t *testing.T) {
	s := some()
	chain(s.Words, 556, 548, 544)
	s.Caches[0].Slabs[1] = api.Slab{At: 34, Free: 3, First: 556}
	gone := clone(s)
	gone.Words[552] = 556
	gone.Caches[0].Slabs = slices.Delete(gone.Caches[0].Slabs, 1, 2)
	for cpu := range 3 {
		want := clone(gone)
		want.Heap, _ = pages.Free(s.Heap, cpu, 34)
		wantFree(t, s, "a", cpu, 552, want, api.OK)
		wantMayBe(t, "Free", want)
	}
	whole := clone(s)
	whole.Words[552] = 556
	whole.Caches[0].Slabs[1] = api.Slab{At: 34, Free: 4, First: 552}
	stays := func(how func(s *api.System)) {
		t.Helper()
		wantFree(t, changed(s, how), "a", 1, 552, changed(whole, how), api.OK)
	}
	// Somebody takes from it, another processor or the same one.
	stays(func(s *api.System) { s.Caches[0].Active[0] = 34 })
	stays(func(s *api.System) { s.Caches[0].Active[1] = 34 })
	// Somebody takes from the other one.
	stays(func(s *api.System) { s.Caches[0].Active[1] = 38 })
	// The other one has an object that is not free, or is not there.
	stays(func(s *api.System) { s.Caches[0].Slabs[3] = api.Slab{At: 38, Free: 3, First: 612} })
	stays(func(s *api.System) { s.Caches[0].Slabs = slices.Delete(s.Caches[0].Slabs, 3, 4) })
	// Such ones of another cache do not count.
	stays(func(s *api.System) {
		s.Caches[0].Slabs = slices.Delete(s.Caches[0].Slabs, 3, 4)
		s.Caches[1].Active[2] = -1
	})
	// Not all of its objects are free: nothing goes, though there are two other such ones.
	two := changed(s, func(s *api.System) {
		s.Caches[0].Slabs[2] = api.Slab{At: 36, Free: 4, First: 576}
		chain(s.Words, 576, 580, 584, 588)
		s.Caches[0].Active[0] = -1
	})
	want := clone(two)
	want.Caches[0].Slabs[4] = api.Slab{At: 40, Free: 2, First: 640}
	want.Words[640] = 644
	wantFree(t, two, "a", 1, 640, want, api.OK)
	// With two other such ones only the pages of this one go.
	want = clone(two)
	want.Words[552] = 556
	want.Caches[0].Slabs = slices.Delete(want.Caches[0].Slabs, 1, 2)
	want.Heap, _ = pages.Free(two.Heap, 1, 34)
	wantFree(t, two, "a", 1, 552, want, api.OK)
}

// P5.9: a slab of more pages goes back at once, also if it has one object alone.
func TestFreeBlock(t *testing.T) {
	s := empty()
	s, _ = slab.Create(s, "m", 64, 1)
	s, l, _ := slab.Bulk(s, "m", 0, 4)
	if !slices.Equal(l, []int{512, 576, 640, 704}) {
		t.Fatal(l)
	}
	// The first one is kept, and the second one goes; from the last one somebody takes.
	for _, c := range []struct {
		addr  int
		slabs []api.Slab
		live  []api.Block
	}{
		{576, slabs(32, 0, -1, 36, 1, 576, 40, 0, -1, 44, 0, -1), blocks(32, 2, 0, 36, 2, 0, 40, 2, 0, 44, 2, 0)},
		{704, slabs(32, 0, -1, 36, 1, 576, 40, 0, -1, 44, 1, 704), blocks(32, 2, 0, 36, 2, 0, 40, 2, 0, 44, 2, 0)},
		{512, slabs(36, 1, 576, 40, 0, -1, 44, 1, 704), blocks(36, 2, 0, 40, 2, 0, 44, 2, 0)},
		{640, slabs(36, 1, 576, 44, 1, 704), blocks(36, 2, 0, 44, 2, 0)},
	} {
		x, e := slab.Free(s, "m", 1, c.addr)
		if e != api.OK || !slices.Equal(x.Caches[0].Slabs, c.slabs) || !slices.Equal(x.Heap.Live, c.live) {
			t.Fatalf("Free %d: %d, %s", c.addr, int(e), tell(x))
		}
		wantFree(t, x, "m", 1, c.addr, api.System{}, api.ErrNone)
		s = x
	}
}

// P5.9: what is wrong: free ones, those of other caches, and what is no object.
func TestFreeWrong(t *testing.T) {
	s, zero := some(), api.System{}
	live := map[string][]int{"a": {512, 516, 520, 524, 544, 552, 580, 640, 648, 652}, "c": {704, 744}}
	for n, l := range live {
		for addr := -70; addr < 4200; addr++ {
			if !slices.Contains(l, addr) {
				wantFree(t, s, n, 0, addr, zero, api.ErrNone)
			}
		}
		for _, addr := range strange {
			wantFree(t, s, n, 0, addr, zero, api.ErrNone)
		}
	}
}

// P5.9: drawn systems, all objects.
func TestFreeDrawn(t *testing.T) {
	d := die(509)
	for range 40 {
		s := d.system()
		for _, c := range s.Caches {
			for _, b := range c.Slabs {
				for o := range c.Per {
					n, cpu, addr := c.Names[0], d.n(s.Heap.Cpus), b.At*16+o*c.Size
					m := modelOf(s)
					f := m.free(n, cpu, addr)
					wantFree(t, s, n, cpu, addr, m.answered(f), f)
					if f == api.OK {
						wantMayBe(t, "Free", m.system())
					}
				}
			}
		}
	}
}

// P5.10: nobody takes any more; whole slabs go back by processor 0, the highest ones first.
func TestShrink(t *testing.T) {
	s := some()
	s.Caches[0].Slabs[2] = api.Slab{At: 36, Free: 4, First: 576}
	chain(s.Words, 576, 580, 584, 588)
	want := clone(s)
	want.Caches[0].Active = []int{-1, -1, -1}
	want.Caches[0].Slabs = slabs(32, 0, -1, 34, 2, 556, 40, 1, 644)
	want.Heap.Live = slices.Delete(want.Heap.Live, 2, 4)
	want.Heap.Lists = append([]api.List{{Cpu: 0, Zone: 1, Type: 1, Pages: []int{38, 36}}}, s.Heap.Lists...)
	for _, n := range []string{"a", "b"} {
		wantShrink(t, s, n, want, api.OK)
		wantShrink(t, want, n, want, api.OK)
	}
	want = clone(s)
	want.Caches[1].Active, want.Caches[1].Slabs = []int{-1, -1, -1}, slabs(44, 1, 724)
	want.Heap, _ = pages.Free(s.Heap, 2, 52)
	wantShrink(t, s, "c", want, api.OK)
	// Without slabs, and without whole ones.
	s, _ = slab.Create(s, "none", 7, 1)
	wantShrink(t, s, "none", s, api.OK)
	d := die(510)
	for range 200 {
		s := d.system()
		for _, c := range s.Caches {
			m := modelOf(s)
			m.shrink(c.Names[0])
			wantShrink(t, s, c.Names[0], m.system(), api.OK)
			wantMayBe(t, "Shrink", m.system())
		}
	}
}

// P5.11: a name goes, whatever the objects are; with the last one the cache, if none is given away.
func TestDestroy(t *testing.T) {
	s := some()
	for _, c := range []struct {
		i    int
		n    string
		left []string
	}{{0, "a", []string{"b"}}, {0, "b", []string{"a"}}, {1, "c", []string{"big"}}, {1, "big", []string{"c"}}} {
		want := clone(s)
		want.Caches[c.i].Names = c.left
		wantDestroy(t, s, c.n, want, api.OK)
		wantDestroy(t, want, c.n, api.System{}, api.ErrNone)
		wantDestroy(t, want, c.left[0], api.System{}, api.ErrBusy)
	}
	three := changed(s, func(s *api.System) { s.Caches[0].Names = []string{"a", "ab", "b"} })
	wantDestroy(t, three, "ab", s, api.OK)
	// Without objects that are given away, its slabs go back first; those of others, and their places, stay.
	s.Caches[0].Names = []string{"a"}
	for k := range s.Caches[0].Slabs {
		at := s.Caches[0].Slabs[k].At * 16
		chain(s.Words, at, at+4, at+8, at+12)
		s.Caches[0].Slabs[k].Free, s.Caches[0].Slabs[k].First = 4, at
	}
	want := clone(s)
	want.Caches = want.Caches[1:]
	for _, at := range []int{40, 38, 36, 34, 32} {
		want.Heap, _ = pages.Free(want.Heap, 0, at)
	}
	wantDestroy(t, s, "a", want, api.OK)
	wantMayBe(t, "Destroy", want)
	// One object that is not free is enough.
	s.Caches[0].Slabs[4] = api.Slab{At: 40, Free: 3, First: 644}
	wantDestroy(t, s, "a", api.System{}, api.ErrBusy)
	// A cache without slabs; then its name and size are there again.
	s, _ = slab.Create(some(), "d", 9, 1)
	s, _ = slab.Create(s, "e", 10, 1)
	want = clone(s)
	want.Caches = slices.Delete(want.Caches, 2, 3)
	wantDestroy(t, s, "d", want, api.OK)
	wantAlloc(t, want, "d", 0, api.System{}, 0, api.ErrNone)
	s = want
	want = clone(s)
	want.Caches = append(want.Caches, api.Cache{Names: []string{"d"}, Size: 9, Per: 7, Order: 2, Active: []int{-1, -1, -1}})
	wantCreate(t, s, "d", 9, 1, want, api.OK)
}

// P5.11: drawn systems, all names.
func TestDestroyDrawn(t *testing.T) {
	d := die(511)
	for range 300 {
		s := d.system()
		for i := range s.Caches {
			c := &s.Caches[i]
			if d.n(2) == 0 {
				c.Names = c.Names[:1]
			}
			if d.n(2) == 0 {
				c.Slabs = slices.DeleteFunc(c.Slabs, func(b api.Slab) bool { return b.Free != c.Per })
				c.Active = slices.Repeat([]int{-1}, s.Heap.Cpus)
			}
		}
		for _, c := range s.Caches {
			for _, n := range c.Names {
				m := modelOf(s)
				f := m.destroy(n)
				wantDestroy(t, s, n, m.answered(f), f)
			}
		}
	}
}

// act: a drawn call, of a system and of the model; what comes out, and the objects that are given away then.
func (d *die) act(t *testing.T, s api.System, live []int) (api.System, []int) {
	m, n, cpu := modelOf(s), d.name(s), d.n(s.Heap.Cpus)
	f, then := api.OK, live
	switch d.n(12) {
	case 0, 1, 2, 3:
		var at int
		at, f = m.alloc(n, cpu)
		wantAlloc(t, s, n, cpu, m.answered(f), at, f)
		if slices.Contains(live, at) && f == api.OK {
			t.Errorf("%d is given away twice", at)
		}
		then = append(slices.Clone(live), at)
	case 4, 5, 6, 7, 8:
		if len(live) == 0 {
			return s, live
		}
		at := live[d.n(len(live))]
		if i, _, _, e := m.find(at); e == api.OK && d.n(8) > 0 {
			n = s.Caches[i].Names[0]
		}
		f = m.free(n, cpu, at)
		wantFree(t, s, n, cpu, at, m.answered(f), f)
		then = slices.DeleteFunc(slices.Clone(live), func(a int) bool { return a == at })
	case 9:
		n, size, align := fmt.Sprint("n", d.n(30)), d.n(66), d.n(10)
		f = m.create(n, size, align)
		wantCreate(t, s, n, size, align, m.answered(f), f)
	case 10:
		if d.n(2) == 0 {
			f = m.destroy(n)
			wantDestroy(t, s, n, m.answered(f), f)
		} else {
			f = m.shrink(n)
			wantShrink(t, s, n, m.answered(f), f)
		}
	default:
		var l []int
		many := d.n(12)
		l, f = m.bulk(n, cpu, many)
		wantBulk(t, s, n, cpu, many, m.answered(f), l, f)
		then = append(slices.Clone(live), l...)
	}
	if f != api.OK {
		return s, live
	}
	return clone(m.system()), then
}

// Drawn calls, one behind the other: what is given away is found, and the words that are written there stay.
func TestRoundTrip(t *testing.T) {
	d := die(512)
	for range 40 {
		from := 16 * d.n(10)
		h, _ := pages.New([]api.Region{{From: from, Size: 4 + d.n(60)}}, 16*d.n(17), d.n(3), 1+d.n(4))
		s := api.System{Words: make([]int, 4096), Heap: h}
		for i := range 4 {
			s, _ = slab.Create(s, fmt.Sprint("n", i), 1+d.n(20), 1<<d.n(4))
		}
		var live []int
		for range 120 {
			s, live = d.act(t, s, live)
			wantMayBe(t, "on the way", s)
			for _, at := range live {
				if s.Words[at] < 1<<30 {
					s.Words[at] = 1<<30 + at // as one that uses it would
				}
				if _, _, e := slab.Find(s, at); e != api.OK || s.Words[at] != 1<<30+at {
					t.Fatalf("%d is given away, but: %d, the word %d", at, int(e), s.Words[at])
				}
			}
			if t.Failed() {
				return
			}
		}
	}
}

// Drawn calls end and do not panic, on systems of which anything is otherwise; what is refused answers nothing.
func TestAnything(t *testing.T) {
	d := die(513)
	number := func() int {
		return append([]int{-2, -1, 0, 1, 2, 3, 4, 16, 63, 64, 65, 256}, strange...)[d.n(12+len(strange))]
	}
	for range 1500 {
		s := d.system()
		for range 1 + d.n(3) {
			c := &s.Caches[d.n(len(s.Caches))]
			for _, p := range [][]*int{{&c.Size, &c.Per, &c.Order, &s.Heap.Cpus, &s.Words[d.n(len(s.Words))]}, slabFields(c)} {
				if len(p) > 0 && d.n(2) == 0 {
					*p[d.n(len(p))] = number()
				}
			}
			if d.n(3) == 0 && len(c.Active) > 0 {
				c.Active[d.n(len(c.Active))] = number()
			}
			if d.n(9) == 0 {
				c.Names = append(c.Names, c.Names[0])
			}
		}
		state := slab.Check(s)
		n, cpu, addr := d.name(s), number(), number()
		x, _, e := slab.Alloc(s, n, cpu)
		y, f := slab.Free(s, n, cpu, addr)
		z, _, g := slab.Bulk(s, n, cpu, number())
		v, h := slab.Create(s, n, number(), number())
		u, i := slab.Shrink(s, n)
		w, k := slab.Destroy(s, n)
		_, _, l := slab.Find(s, addr)
		for at, a := range []struct {
			s api.System
			e api.Errno
		}{{x, e}, {y, f}, {z, g}, {v, h}, {u, i}, {w, k}, {api.System{}, l}} {
			if a.e != api.OK && !same(a.s, api.System{}) || state != api.OK && a.e != state {
				t.Errorf("call %d on %s: %d, %s", at, tell(s), int(a.e), tell(a.s))
			}
		}
	}
}

// slabFields: all numbers of a cache's slabs.
func slabFields(c *api.Cache) []*int {
	var l []*int
	for k := range c.Slabs {
		b := &c.Slabs[k]
		l = append(l, &b.At, &b.Free, &b.First)
	}
	return l
}
