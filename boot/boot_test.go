package boot_test

import (
	"fmt"
	"math"
	"slices"
	"testing"

	"paddock/api"
	"paddock/boot"
)

// strange numbers: far outside of all bounds, and so that sums and differences of them wrap round.
var strange = []int{math.MinInt, math.MinInt + 1, math.MinInt + api.MaxPages, -1 << 32, -2, 1 << 32, 1<<32 + 1, math.MaxInt - api.MaxPages, math.MaxInt - 1, math.MaxInt}

// changes: the calls of P2.3, by name; which of the two lists they change, and whether pages are in it then.
var changes = []struct {
	name   string
	call   func(api.Boot, api.Region) (api.Boot, api.Errno)
	memory bool
	in     bool
}{
	{"Add", boot.Add, true, true},
	{"Remove", boot.Remove, true, false},
	{"Reserve", boot.Reserve, false, true},
	{"Free", boot.Free, false, false},
}

func region(from, size int) api.Region { return api.Region{From: from, Size: size} }

// list of regions: the place and the size of each.
func list(l ...int) []api.Region {
	var out []api.Region
	for i := 0; i < len(l); i += 2 {
		out = append(out, region(l[i], l[i+1]))
	}
	return out
}

// die: numbers that look drawn, the same each time.
type die uint64

func (d *die) n(most int) int {
	*d = *d*6364136223846793005 + 1442695040888963407
	return int(uint64(*d>>33) % uint64(most))
}

// pages: those of regions that may be, one by one.
func pages(l []api.Region) map[int]bool {
	m := map[int]bool{}
	for _, r := range l {
		for p := r.From; p < r.From+r.Size; p++ {
			m[p] = true
		}
	}
	return m
}

// regions of pages: from each one that has none below it to the next one that is missing.
func regions(m map[int]bool) []api.Region {
	var l []api.Region
	for p := range api.MaxPages {
		if !m[p] || m[p-1] {
			continue
		}
		n := 1
		for m[p+n] {
			n++
		}
		l = append(l, region(p, n))
	}
	return l
}

// bits: the regions of the pages, from one on, whose bit is 1.
func bits(from, set int) []api.Region {
	m := map[int]bool{}
	for i := range 16 {
		if set>>i&1 == 1 {
			m[from+i] = true
		}
	}
	return regions(m)
}

// comb: n regions of a size, with gaps of a size between them.
func comb(n, size, gap int) []api.Region {
	var l []api.Region
	for i := range n {
		l = append(l, region(i*(size+gap), size))
	}
	return l
}

// drawn regions.
func (d *die) regions() []api.Region {
	m, p := map[int]bool{}, d.n(20)
	for p < api.MaxPages {
		for range 1 + d.n(30) {
			if p < api.MaxPages {
				m[p] = true
			}
			p++
		}
		p += 1 + d.n(12)
	}
	l := regions(m)
	return l[:min(len(l), d.n(20))]
}

// sameBoot: are they the same? A list without elements may be nil or not.
func sameBoot(a, b api.Boot) bool {
	return slices.Equal(a.Memory, b.Memory) && slices.Equal(a.Reserved, b.Reserved)
}

// wantBoot: an answer as it should be.
func wantBoot(t *testing.T, what string, got api.Boot, e api.Errno, want api.Boot, f api.Errno) {
	t.Helper()
	if e != f || !sameBoot(got, want) {
		t.Errorf("%s: %v, %d; want %v, %d", what, got, int(e), want, int(f))
	}
}

// changed: what one of the calls of P2.3 should answer to what may be.
func changed(b api.Boot, r api.Region, memory, in bool) api.Boot {
	l := b.Reserved
	if memory {
		l = b.Memory
	}
	m := pages(l)
	for p := r.From; p < r.From+r.Size; p++ {
		m[p] = in
	}
	if memory {
		return api.Boot{Memory: regions(m), Reserved: b.Reserved}
	}
	return api.Boot{Memory: b.Memory, Reserved: regions(m)}
}

// free pages, as P2.4 says.
func free(b api.Boot) map[int]bool {
	m := pages(b.Memory)
	for p := range pages(b.Reserved) {
		delete(m, p)
	}
	return m
}

// place: where Alloc should find its pages; -1: nowhere.
func place(b api.Boot, size, align, low, high int, down bool) int {
	m, found := free(b), -1
	for at := 0; at < api.MaxPages; at += align {
		ok := at >= low && at+size <= high
		for p := at; p < at+size; p++ {
			ok = ok && m[p]
		}
		if ok && (down || found < 0) {
			found = at
		}
	}
	return found
}

// P2.1: a region has pages, and all of them are from 0 to below MaxPages.
func TestCheckRegion(t *testing.T) {
	for from := -3; from <= api.MaxPages+3; from++ {
		for size := -3; size <= api.MaxPages+4; size++ {
			want := api.ErrRange
			if size > 0 && from >= 0 && from+size <= api.MaxPages {
				want = api.OK
			}
			if e := boot.CheckRegion(region(from, size)); e != want {
				t.Errorf("CheckRegion %d %d: %d, want %d", from, size, int(e), int(want))
			}
		}
	}
}

// strangeRegions may not be: each has at least one number that is far outside, and some of their sums are inside.
func strangeRegions() []api.Region {
	var l []api.Region
	for _, n := range strange {
		for _, m := range append([]int{0, 1, api.MaxPages}, strange...) {
			l = append(l, region(n, m), region(m, n))
		}
	}
	return l
}

// P2.1: numbers whose sum wraps round.
func TestCheckRegionStrange(t *testing.T) {
	for _, r := range strangeRegions() {
		if e := boot.CheckRegion(r); e != api.ErrRange {
			t.Errorf("CheckRegion %v: %d, want ErrRange", r, int(e))
		}
	}
}

// listCase: a list of regions, and what Check says of it, in Memory and in Reserved.
type listCase struct {
	l    []api.Region
	want api.Errno
}

func listCases() []listCase {
	return []listCase{
		{nil, api.OK},
		{[]api.Region{}, api.OK},
		{list(0, 1), api.OK},
		{list(0, api.MaxPages), api.OK},
		{list(api.MaxPages-1, 1), api.OK},
		{list(0, 4, 5, 1, 7, 249), api.OK},
		{list(0, 4, 4, 1), api.ErrState},       // they touch
		{list(0, 4, 3, 1), api.ErrState},       // a page in common
		{list(0, 9, 3, 1), api.ErrState},       // one within the other
		{list(3, 1, 3, 1), api.ErrState},       // the same twice
		{list(3, 1, 3, 4), api.ErrState},       // one place
		{list(5, 1, 0, 4), api.ErrState},       // not by their places
		{list(5, 1, 3, 1), api.ErrState},       // nor these
		{list(4, 1, 3, 1), api.ErrState},       // they touch, too
		{list(0, 1, 9, 3, 5, 1), api.ErrState}, // the last two alone
		{list(0, 1, 2, 1, 3, 1), api.ErrState},
		{list(0, 0), api.ErrState},
		{list(3, 0, 5, 1), api.ErrState},
		{list(0, 1, 3, 0), api.ErrState},
		{list(5, -2), api.ErrState},
		{list(-1, 3), api.ErrState},
		{list(-1, 1, 1, 1), api.ErrState},
		{list(api.MaxPages, 1), api.ErrState},
		{list(0, 1, 250, 7), api.ErrState},
		{list(0, api.MaxPages+1), api.ErrState},
		{comb(api.MaxRegions-1, 1, 1), api.OK},
		{comb(api.MaxRegions, 1, 1), api.OK},
		{comb(api.MaxRegions, 5, 1), api.OK},
		{comb(api.MaxRegions+1, 1, 1), api.ErrState},
		{comb(128, 1, 1), api.ErrState},
		{make([]api.Region, 1<<16), api.ErrState},
	}
}

// P2.2: what Check says of a list, whichever of the two it is.
func TestCheck(t *testing.T) {
	for _, c := range listCases() {
		for _, other := range list(0, 256, 0, 1, 5, 7) {
			l := []api.Region{other}
			for _, b := range []api.Boot{{Memory: c.l}, {Reserved: c.l}, {Memory: c.l, Reserved: l}, {Memory: l, Reserved: c.l}, {Memory: c.l, Reserved: c.l}} {
				if e := boot.Check(b); e != c.want {
					t.Errorf("Check %v: %d, want %d", b, int(e), int(c.want))
				}
			}
		}
	}
}

// P2.2: strange regions, alone and with others ahead and behind.
func TestCheckStrange(t *testing.T) {
	for _, r := range strangeRegions() {
		for _, l := range [][]api.Region{{r}, {region(0, 1), r}, {r, region(200, 1)}, {region(0, 1), r, region(200, 1)}} {
			if e := boot.Check(api.Boot{Memory: l}); e != api.ErrState {
				t.Errorf("Check of Memory %v: %d, want ErrState", l, int(e))
			}
			if e := boot.Check(api.Boot{Reserved: l}); e != api.ErrState {
				t.Errorf("Check of Reserved %v: %d, want ErrState", l, int(e))
			}
		}
	}
}

// P2.2: all pairs of small regions.
func TestCheckPairs(t *testing.T) {
	var all []api.Region
	for from := range 6 {
		for size := range 5 {
			all = append(all, region(from, size))
		}
	}
	for _, a := range all {
		for _, b := range all {
			l := []api.Region{a, b}
			want := api.ErrState
			if slices.Equal(regions(pages(l)), l) {
				want = api.OK
			}
			if e := boot.Check(api.Boot{Memory: l}); e != want {
				t.Errorf("Check %v: %d, want %d", l, int(e), int(want))
			}
		}
	}
}

// P2.2: all other calls refuse what Check refuses, whatever else is wrong.
func TestCheckFirst(t *testing.T) {
	for _, c := range listCases() {
		if c.want == api.OK {
			continue
		}
		for _, b := range []api.Boot{{Memory: c.l}, {Reserved: c.l}, {Memory: list(0, 256), Reserved: c.l}} {
			for _, f := range changes {
				for _, r := range list(0, 1, 0, 0, 250, 7) {
					x, e := f.call(b, r)
					wantBoot(t, f.name, x, e, api.Boot{}, api.ErrState)
				}
			}
			if l, e := boot.Ranges(b); len(l) > 0 || e != api.ErrState {
				t.Errorf("Ranges %v: %v, %d; want ErrState", b, l, int(e))
			}
			for _, n := range []int{1, 0, 256, 257} {
				x, at, e := boot.Alloc(b, n, 1, 0, 256, false)
				wantBoot(t, "Alloc", x, e, api.Boot{}, api.ErrState)
				if at != 0 {
					t.Errorf("Alloc %v: %d with an error", b, at)
				}
			}
		}
	}
}

// P2.3: all sets of six pages, at both ends and in between, and all regions about them.
func TestChangesSmall(t *testing.T) {
	other := list(1, 1, 3, 2, 100, 3, 252, 2)
	for _, from := range []int{0, 100, api.MaxPages - 6} {
		for set := range 64 {
			l := bits(from, set)
			for at := max(0, from-2); at < min(api.MaxPages, from+8); at++ {
				for size := 1; size < 8 && at+size <= api.MaxPages; size++ {
					r := region(at, size)
					for _, f := range changes {
						b := api.Boot{Memory: other, Reserved: l}
						if f.memory {
							b = api.Boot{Memory: l, Reserved: other}
						}
						x, e := f.call(b, r)
						wantBoot(t, fmt.Sprint(f.name, b, r), x, e, changed(b, r, f.memory, f.in), api.OK)
					}
				}
			}
		}
	}
}

// P2.3: drawn ones; what comes out may be, too.
func TestChangesDrawn(t *testing.T) {
	d := die(23)
	for range 2000 {
		b := api.Boot{Memory: d.regions(), Reserved: d.regions()}
		r := api.Region{From: d.n(api.MaxPages)}
		r.Size = 1 + d.n(api.MaxPages-r.From)
		for _, f := range changes {
			x, e := f.call(b, r)
			wantBoot(t, fmt.Sprint(f.name, b, r), x, e, changed(b, r, f.memory, f.in), api.OK)
			if e := boot.Check(x); e != api.OK {
				t.Errorf("%s %v %v: its answer %v may not be: %d", f.name, b, r, x, int(e))
			}
		}
	}
}

// P2.3: a region that may not be, also where there are as many as there may be.
func TestChangesRange(t *testing.T) {
	l := append(strangeRegions(), api.Region{}, region(3, 0), region(3, -1), region(-1, 1), region(-1, 9), region(256, 1), region(250, 7), region(0, 257))
	full := comb(api.MaxRegions, 1, 1)
	for _, f := range changes {
		for _, r := range l {
			for _, b := range []api.Boot{{}, {Memory: list(0, 9), Reserved: list(2, 3)}, {Memory: full, Reserved: full}} {
				x, e := f.call(b, r)
				wantBoot(t, fmt.Sprint(f.name, b, r), x, e, api.Boot{}, api.ErrRange)
			}
		}
	}
}

// P2.3: at MaxRegions regions of three pages, three pages apart: what makes one more is refused, what does not is done.
func TestChangesSize(t *testing.T) {
	full := comb(api.MaxRegions, 3, 3)
	for _, f := range changes {
		for at := range 10 {
			for size := 1; size < 14; size++ {
				for _, from := range []int{0, 114, 228} {
					r := region(from+at, size)
					for _, b := range []api.Boot{{Memory: full}, {Reserved: full}, {Memory: full, Reserved: full}} {
						want, g := changed(b, r, f.memory, f.in), api.OK
						if len(want.Memory) > api.MaxRegions || len(want.Reserved) > api.MaxRegions {
							want, g = api.Boot{}, api.ErrSize
						}
						x, e := f.call(b, r)
						wantBoot(t, fmt.Sprint(f.name, r), x, e, want, g)
					}
				}
			}
		}
	}
}

// P2.3: the edge itself: from MaxRegions - 1 to MaxRegions, and not on from there.
func TestChangesSizeEdge(t *testing.T) {
	almost := comb(api.MaxRegions-1, 3, 3)
	b := api.Boot{Memory: almost, Reserved: almost}
	for _, f := range changes {
		one, two := region(240, 1), region(250, 1)
		if !f.in {
			one, two = region(1, 1), region(7, 1)
		}
		x, e := f.call(b, one)
		wantBoot(t, f.name+" of the last one", x, e, changed(b, one, f.memory, f.in), api.OK)
		y, e := f.call(x, two)
		wantBoot(t, f.name+" of one more", y, e, api.Boot{}, api.ErrSize)
	}
}

// P2.4: all sets of five pages as Memory and as Reserved, at both ends.
func TestRangesSmall(t *testing.T) {
	for _, from := range []int{0, api.MaxPages - 5} {
		for set := range 1 << 10 {
			b := api.Boot{Memory: bits(from, set>>5), Reserved: bits(from, set&31)}
			want := bits(from, set>>5&^(set&31))
			if l, e := boot.Ranges(b); e != api.OK || !slices.Equal(l, want) {
				t.Errorf("Ranges %v: %v, %d; want %v", b, l, int(e), want)
			}
		}
	}
}

// P2.4: drawn ones, and all pages.
func TestRangesDrawn(t *testing.T) {
	d := die(24)
	all := list(0, api.MaxPages)
	l := []api.Boot{{}, {Memory: all}, {Reserved: all}, {Memory: all, Reserved: all}}
	for range 2000 {
		l = append(l, api.Boot{Memory: d.regions(), Reserved: d.regions()})
	}
	for _, b := range l {
		want := regions(free(b))
		if l, e := boot.Ranges(b); e != api.OK || !slices.Equal(l, want) {
			t.Errorf("Ranges %v: %v, %d; want %v", b, l, int(e), want)
		}
	}
}

// P2.4: all free pages are told, even where their regions are more than MaxRegions.
func TestRangesMany(t *testing.T) {
	var holes []api.Region
	for i := range api.MaxRegions {
		holes = append(holes, region(4*i+1, 1))
	}
	l, e := boot.Ranges(api.Boot{Memory: comb(api.MaxRegions, 3, 1), Reserved: holes})
	if want := comb(2*api.MaxRegions, 1, 1); e != api.OK || !slices.Equal(l, want) {
		t.Errorf("Ranges: %v, %d; want %v", l, int(e), want)
	}
}

// wantAlloc: does Alloc answer as it should?
func wantAlloc(t *testing.T, b api.Boot, size, align, low, high int, down bool) {
	t.Helper()
	want, g := api.Boot{}, api.ErrRoom
	at := place(b, size, align, low, high, down)
	if at >= 0 {
		want, g = changed(b, region(at, size), false, true), api.OK
	} else {
		at = 0
	}
	x, got, e := boot.Alloc(b, size, align, low, high, down)
	if got != at || e != g || !sameBoot(x, want) {
		t.Errorf("Alloc %v %d %d %d %d %t: %v, %d, %d; want %v, %d, %d", b, size, align, low, high, down, x, got, int(e), want, at, int(g))
	}
}

// P2.5: all sizes, places and bounds about few pages, of which some are reserved.
func TestAllocSmall(t *testing.T) {
	for _, b := range []api.Boot{
		{},
		{Memory: list(0, 8)},
		{Memory: list(3, 9)},
		{Memory: list(0, 12), Reserved: list(0, 1, 5, 2)},
		{Memory: list(1, 4, 6, 5), Reserved: list(3, 1, 5, 1, 11, 9)},
		{Memory: list(2, 2, 6, 2, 10, 2)},
		{Memory: list(2, 2), Reserved: list(0, 256)},
	} {
		for size := 1; size < 7; size++ {
			for align := 1; align < 7; align++ {
				for low := range 14 {
					for high := low; high < 14; high++ {
						wantAlloc(t, b, size, align, low, high, true)
						wantAlloc(t, b, size, align, low, high, false)
					}
				}
			}
		}
	}
}

// P2.5: drawn ones.
func TestAllocDrawn(t *testing.T) {
	d := die(25)
	for range 5000 {
		b := api.Boot{Memory: d.regions(), Reserved: d.regions()}
		low := d.n(api.MaxPages + 1)
		if d.n(2) == 0 {
			low = d.n(40)
		}
		high := low + d.n(api.MaxPages+1-low)
		wantAlloc(t, b, 1+d.n(16), 1+d.n(20), low, high, d.n(2) == 0)
	}
}

// P2.5: the greatest numbers that may be.
func TestAllocEdges(t *testing.T) {
	all := api.Boot{Memory: list(0, api.MaxPages)}
	for _, down := range []bool{false, true} {
		wantAlloc(t, all, api.MaxPages, api.MaxPages, 0, api.MaxPages, down)
		wantAlloc(t, all, api.MaxPages, 1, 0, api.MaxPages-1, down)
		wantAlloc(t, all, api.MaxPages, 1, 1, api.MaxPages, down)
		wantAlloc(t, all, 1, api.MaxPages, 0, api.MaxPages, down)
		wantAlloc(t, all, 1, api.MaxPages, 1, api.MaxPages, down)
		wantAlloc(t, all, 1, 1, api.MaxPages, api.MaxPages, down)
		wantAlloc(t, all, 1, 1, api.MaxPages-1, api.MaxPages, down)
		wantAlloc(t, all, 1, 1, 0, 0, down)
		wantAlloc(t, all, 1, 255, 0, api.MaxPages, down)
		wantAlloc(t, all, 2, 255, 1, api.MaxPages, down)
	}
}

// P2.5: numbers outside their bounds, ahead of there being no pages.
func TestAllocRange(t *testing.T) {
	wrong := [][4]int{{0, 1, 0, 9}, {0, 4, 5, 7}, {-1, 1, 0, 9}, {257, 1, 0, 256}, {1, 0, 0, 9}, {1, -1, 0, 9}, {1, 257, 0, 9}, {1, 1, -1, 9}, {1, 1, 257, 257}, {1, 1, 257, 256}, {1, 1, 5, 4}, {1, 1, 0, -1}, {1, 1, 0, 257}, {1, 1, 256, 257}, {0, 0, -1, -2}}
	for _, n := range strange {
		wrong = append(wrong, [4]int{n, 1, 0, 9}, [4]int{1, n, 0, 9}, [4]int{1, 1, n, 9}, [4]int{1, 1, 0, n}, [4]int{n, n, n, n}, [4]int{1, 1, n, n})
	}
	full := api.Boot{Memory: list(0, api.MaxPages), Reserved: comb(api.MaxRegions, 3, 3)}
	for _, b := range []api.Boot{{}, {Memory: full.Memory}, full} {
		for _, w := range wrong {
			x, at, e := boot.Alloc(b, w[0], w[1], w[2], w[3], true)
			wantBoot(t, fmt.Sprint("Alloc ", w), x, e, api.Boot{}, api.ErrRange)
			if at != 0 {
				t.Errorf("Alloc %v: %d with an error", w, at)
			}
		}
	}
}

// P2.5: as many regions as there may be are reserved: pages beside one of them still are, no others; no other pages are taken instead.
func TestAllocSize(t *testing.T) {
	b := api.Boot{Memory: list(0, api.MaxPages), Reserved: comb(api.MaxRegions, 3, 3)}
	wantAlloc(t, b, 1, 1, 0, api.MaxPages, false)
	wantAlloc(t, b, 3, 1, 0, 200, true)
	wantAlloc(t, b, 1, 1, 0, 6, true)
	for _, down := range []bool{false, true} {
		x, at, e := boot.Alloc(b, 1, 4, 4, 8, down)
		wantBoot(t, "Alloc between two", x, e, api.Boot{}, api.ErrSize)
		if at != 0 {
			t.Errorf("Alloc between two: %d with an error", at)
		}
		x, _, e = boot.Alloc(b, 60, 1, 0, api.MaxPages, down)
		wantBoot(t, "Alloc without room", x, e, api.Boot{}, api.ErrRoom)
	}
	x, _, e := boot.Alloc(b, 1, 1, 0, api.MaxPages, true)
	wantBoot(t, "Alloc of the last page", x, e, api.Boot{}, api.ErrSize)
}

// spare: the same regions, with room behind them that is filled, too.
func spare(l []api.Region) []api.Region {
	room := append(slices.Clone(l), region(77, 7), region(88, 8), region(99, 9))
	return room[:len(l)]
}

// spoil all of a list, spare room too.
func spoil(l []api.Region) {
	l = l[:cap(l)]
	for i := range l {
		l[i] = region(-9, -9)
	}
}

// calls: all that answer lists, as functions of a boot alone.
func calls() map[string]func(api.Boot) api.Boot {
	m := map[string]func(api.Boot) api.Boot{
		"Ranges": func(b api.Boot) api.Boot { l, _ := boot.Ranges(b); return api.Boot{Memory: l} },
		"Alloc":  func(b api.Boot) api.Boot { x, _, _ := boot.Alloc(b, 2, 2, 0, 256, true); return x },
		"no Alloc": func(b api.Boot) api.Boot {
			x, _, _ := boot.Alloc(b, 200, 2, 0, 256, false)
			return x
		},
	}
	for _, f := range changes {
		m[f.name+" in"] = func(b api.Boot) api.Boot { x, _ := f.call(b, region(5, 1)); return x }
		m[f.name+" over"] = func(b api.Boot) api.Boot { x, _ := f.call(b, region(1, 30)); return x }
		m[f.name+" behind"] = func(b api.Boot) api.Boot { x, _ := f.call(b, region(200, 3)); return x }
		m[f.name+" none"] = func(b api.Boot) api.Boot { x, _ := f.call(b, region(200, 0)); return x }
	}
	return m
}

// untouched: are a list made by spare, and its room, as they were made from l?
func untouched(got, l []api.Region) bool {
	return slices.Equal(got[:len(l)+3], spare(l)[:len(l)+3])
}

// What is handed in stays as it was, and what comes out is new memory, list by list, spare room too.
func TestNewMemory(t *testing.T) {
	some := [][]api.Region{nil, list(0, 100), list(3, 4, 30, 2), list(4, 3, 9, 1), list(2, 2, 5, 1, 20, 4)}
	for name, call := range calls() {
		for _, l := range some {
			for _, m := range some {
				memory, reserved := spare(l), spare(m)
				x := call(api.Boot{Memory: memory, Reserved: reserved})
				again := call(api.Boot{Memory: memory, Reserved: reserved})
				spoil(x.Memory)
				if !slices.Equal(x.Reserved, again.Reserved) {
					t.Errorf("%s: the lists of one answer share memory", name)
				}
				spoil(x.Reserved)
				if !sameBoot(again, call(api.Boot{Memory: spare(l), Reserved: spare(m)})) {
					t.Errorf("%s: an answer is not its own: %v", name, again)
				}
				if !untouched(memory, l) || !untouched(reserved, m) {
					t.Errorf("%s: what was handed in changed: %v %v", name, memory, reserved)
				}
			}
		}
	}
}

// One list handed in twice is told as two.
func TestNewMemoryOfOne(t *testing.T) {
	for name, call := range calls() {
		l := spare(list(3, 4, 30, 2))
		x := call(api.Boot{Memory: l, Reserved: l})
		want := slices.Clone(x.Reserved)
		spoil(x.Memory)
		if !slices.Equal(x.Reserved, want) {
			t.Errorf("%s: the lists of one answer share memory", name)
		}
		spoil(x.Reserved)
		if !untouched(l, list(3, 4, 30, 2)) {
			t.Errorf("%s: what was handed in changed: %v", name, l)
		}
	}
}
