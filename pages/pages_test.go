package pages_test

import (
	"cmp"
	"fmt"
	"maps"
	"math"
	"slices"
	"testing"

	"paddock/api"
	"paddock/buddy"
	"paddock/pages"
)

// strange numbers: far outside of all bounds, and so that sums, differences and shifts of them wrap round.
var strange = []int{math.MinInt, math.MinInt + 1, math.MinInt + 16, -1 << 32, -64, -16, 1 << 32, 1<<32 + 16, math.MaxInt - 255, math.MaxInt - 15, math.MaxInt - 1, math.MaxInt}

// allFlags: those that may be.
var allFlags = []int{0, 1, 2, 3, 4, 5, 8, 9, 10, 11, 12, 13}

// die: numbers that look drawn, the same each time.
type die uint64

func (d *die) n(most int) int {
	*d = *d*6364136223846793005 + 1442695040888963407
	return int(uint64(*d>>33) % uint64(most))
}

// blocks: the place, the order and the type of each.
func blocks(l ...int) []api.Block {
	var out []api.Block
	for i := 0; i < len(l); i += 3 {
		out = append(out, api.Block{At: l[i], Order: l[i+1], Type: l[i+2]})
	}
	return out
}

// list of a processor, a zone and a type.
func list(cpu, zone, t int, l ...int) api.List {
	return api.List{Cpu: cpu, Zone: zone, Type: t, Pages: l}
}

// heap with the second zone from a page on, whose groups are all movable; nothing is held back, and there are four processors.
func heap(split int, low, high []api.Block) api.Heap {
	return api.Heap{
		Zones: []api.Zone{
			{From: 0, To: split, Free: low, Types: slices.Repeat([]int{1}, split/8)},
			{From: split, To: 256, Free: high, Types: slices.Repeat([]int{1}, (256-split)/8)},
		},
		Mins: []int{0, 0},
		Cpus: 4,
	}
}

// changed: a copy, in which something is otherwise.
func changed(h api.Heap, how func(h *api.Heap)) api.Heap {
	x := clone(h)
	how(&x)
	return x
}

// clone: the same, in memory of its own.
func clone(h api.Heap) api.Heap {
	x := h
	x.Zones, x.Mins, x.Lists, x.Live = slices.Clone(h.Zones), slices.Clone(h.Mins), slices.Clone(h.Lists), slices.Clone(h.Live)
	for i, z := range x.Zones {
		x.Zones[i].Free, x.Zones[i].Types = slices.Clone(z.Free), slices.Clone(z.Types)
	}
	for i, l := range x.Lists {
		x.Lists[i].Pages = slices.Clone(l.Pages)
	}
	return x
}

func sameZone(a, b api.Zone) bool {
	return a.From == b.From && a.To == b.To && slices.Equal(a.Free, b.Free) && slices.Equal(a.Types, b.Types)
}

func sameList(a, b api.List) bool {
	return a.Cpu == b.Cpu && a.Zone == b.Zone && a.Type == b.Type && slices.Equal(a.Pages, b.Pages)
}

// same: are they? A list without elements may be nil or not.
func same(a, b api.Heap) bool {
	return slices.EqualFunc(a.Zones, b.Zones, sameZone) && slices.Equal(a.Mins, b.Mins) && a.Cpus == b.Cpus &&
		slices.EqualFunc(a.Lists, b.Lists, sameList) && slices.Equal(a.Live, b.Live)
}

// wantHeap: an answer as it should be.
func wantHeap(t *testing.T, what string, got api.Heap, e api.Errno, want api.Heap, f api.Errno) {
	t.Helper()
	if e != f || !same(got, want) {
		t.Errorf("%s: %v, %d; want %v, %d", what, got, int(e), want, int(f))
	}
}

// wantAlloc: is a call of Alloc answered as it should be?
func wantAlloc(t *testing.T, h api.Heap, cpu, order, flags int, want api.Heap, at int, f api.Errno) {
	t.Helper()
	x, got, e := pages.Alloc(h, cpu, order, flags)
	if got != at || e != f || !same(x, want) {
		t.Errorf("Alloc %v %d %d %d: %v, %d, %d; want %v, %d, %d", h, cpu, order, flags, x, got, int(e), want, at, int(f))
	}
}

// wantFree: is a call of Free answered as it should be?
func wantFree(t *testing.T, h api.Heap, cpu, at int, want api.Heap, f api.Errno) {
	t.Helper()
	if x, e := pages.Free(h, cpu, at); e != f || !same(x, want) {
		t.Errorf("Free %v %d %d: %v, %d; want %v, %d", h, cpu, at, x, int(e), want, int(f))
	}
}

// wantRoom: is there room for a block, or not?
func wantRoom(t *testing.T, h api.Heap, order, flags int, room bool) {
	t.Helper()
	f := api.OK
	if !room {
		f = api.ErrRoom
	}
	if _, _, e := pages.Alloc(h, 0, order, flags); e != f {
		t.Errorf("Alloc %v 0 %d %d: %d, want %d", h, order, flags, int(e), int(f))
	}
}

// freeBlocks of pages, each the greatest one that it could be.
func freeBlocks(in *[api.MaxPages]bool) []api.Block {
	whole := func(at, order int) bool {
		for i := range 1 << order {
			if at%(1<<order) != 0 || !in[at+i] {
				return false
			}
		}
		return true
	}
	var l []api.Block
	for p := 0; p < api.MaxPages; {
		o := api.MaxOrder
		for o >= 0 && !whole(p, o) {
			o--
		}
		if o >= 0 {
			l = append(l, api.Block{At: p, Order: o, Type: api.Movable})
		}
		p += 1 << max(o, 0)
	}
	return l
}

// splitAt: the blocks below a page, and the others.
func splitAt(l []api.Block, split int) ([]api.Block, []api.Block) {
	i := slices.IndexFunc(l, func(b api.Block) bool { return b.At >= split })
	if i < 0 {
		i = len(l)
	}
	return l[:i], l[i:]
}

// zoneOf a page.
func zoneOf(l []api.Zone, at int) int {
	return slices.IndexFunc(l, func(z api.Zone) bool { return at >= z.From && at < z.To })
}

// owner of a list.
type owner struct{ cpu, zone, kind int }

// model: what a heap should do, on top of what a zone does.
type model struct {
	zones []api.Zone
	mins  []int
	cpus  int
	lists map[owner][]int
	live  map[int]api.Block
}

func modelOf(h api.Heap) *model {
	h = clone(h)
	m := &model{zones: h.Zones, mins: h.Mins, cpus: h.Cpus, lists: map[owner][]int{}, live: map[int]api.Block{}}
	for _, l := range h.Lists {
		m.lists[owner{l.Cpu, l.Zone, l.Type}] = l.Pages
	}
	for _, b := range h.Live {
		m.live[b.At] = b
	}
	return m
}

func (m *model) heap() api.Heap {
	h := api.Heap{Zones: m.zones, Mins: m.mins, Cpus: m.cpus}
	for cpu := range 4 {
		for zone := range 2 {
			for kind := range 3 {
				if l := m.lists[owner{cpu, zone, kind}]; len(l) > 0 {
					h.Lists = append(h.Lists, list(cpu, zone, kind, l...))
				}
			}
		}
	}
	for _, b := range slices.SortedFunc(maps.Values(m.live), func(a, b api.Block) int { return cmp.Compare(a.At, b.At) }) {
		h.Live = append(h.Live, b)
	}
	return h
}

func (m *model) back(at, order int) {
	i := zoneOf(m.zones, at)
	m.zones[i], _ = buddy.Back(m.zones[i], at, order)
}

// take a block of a zone, unless it would be one of those that are held back.
func (m *model) take(zone, order, kind, flags int) (int, bool) {
	n := 0
	for _, b := range m.zones[zone].Free {
		n += 1 << b.Order
	}
	least := m.mins[zone]
	if flags/8 == 1 {
		least = int(math.Floor(float64(least) / 2))
	}
	if zone == 0 && flags%2 == 0 {
		for p := m.zones[1].From + 32; p <= 256; p += 32 {
			least++
		}
	}
	if n < least+1<<order {
		return 0, false
	}
	z, at, e := buddy.Take(m.zones[zone], order, kind)
	if e != api.OK {
		return 0, false
	}
	m.zones[zone] = z
	return at, true
}

func (m *model) try(zone, cpu, order, kind, flags int) (int, bool) {
	me := owner{cpu, zone, kind}
	if l := m.lists[me]; order == 0 && len(l) > 0 {
		m.lists[me] = l[:len(l)-1]
		return l[len(l)-1], true
	}
	at, ok := m.take(zone, order, kind, flags)
	for i := 0; i < 3 && ok && order == 0; i++ {
		next, more := m.take(zone, order, kind, flags)
		if !more {
			break
		}
		m.lists[me] = append(m.lists[me], next)
	}
	return at, ok
}

func (m *model) alloc(cpu, order, flags int) (int, api.Errno) {
	kind := []int{api.Fixed, api.Movable, api.Reclaim}[flags/2%4]
	for range 2 {
		for zone := 1; zone >= 0; zone-- {
			if zone == 1 && flags%2 == 1 {
				continue
			}
			if at, ok := m.try(zone, cpu, order, kind, flags); ok {
				m.live[at] = api.Block{At: at, Order: order, Type: kind}
				return at, api.OK
			}
		}
		m.drain()
	}
	return 0, api.ErrRoom
}

func (m *model) free(cpu, at int) api.Errno {
	b, ok := m.live[at]
	if !ok {
		return api.ErrNone
	}
	delete(m.live, at)
	if b.Order > 0 {
		m.back(at, b.Order)
		return api.OK
	}
	zone := zoneOf(m.zones, at)
	me := owner{cpu, zone, m.zones[zone].Types[(at-m.zones[zone].From)/8]}
	m.lists[me] = append(m.lists[me], at)
	if len(m.lists[me]) == 9 {
		for range 4 {
			m.back(m.lists[me][0], 0)
			m.lists[me] = m.lists[me][1:]
		}
	}
	return api.OK
}

func (m *model) drain() {
	for _, l := range m.heap().Lists {
		for _, at := range l.Pages {
			m.back(at, 0)
		}
	}
	clear(m.lists)
}

// answered: the heap that should come out.
func (m *model) answered(e api.Errno) api.Heap {
	if e != api.OK {
		return api.Heap{}
	}
	return m.heap()
}

// drawn heap that may be: each page is in some place or in none; types have nothing to do with each other.
func (d *die) heap() api.Heap {
	h := heap(16*d.n(17), nil, nil)
	h.Cpus, h.Mins = 1+d.n(4), []int{d.n(1 + d.n(40)), d.n(1 + d.n(40))}
	lists := map[owner][]int{}
	var in [api.MaxPages]bool
	crowd := 2 + d.n(6)
	for p := 0; p < api.MaxPages; {
		o := d.n(5)
		for p%(1<<o) != 0 {
			o--
		}
		zone := zoneOf(h.Zones, p)
		switch me := (owner{d.n(h.Cpus), zone, d.n(3)}); d.n(crowd) {
		case 0:
			for i := range 1 << o {
				in[p+i] = true
			}
		case 1:
			h.Live = append(h.Live, api.Block{At: p, Order: o, Type: d.n(3)})
		case 2:
			o = 0
			if l := lists[me]; len(l) < 8 {
				lists[me] = slices.Insert(l, d.n(len(l)+1), p)
			}
		}
		p += 1 << o
	}
	h.Lists = (&model{lists: lists}).heap().Lists
	h.Zones[0].Free, h.Zones[1].Free = splitAt(freeBlocks(&in), h.Zones[1].From)
	for _, z := range h.Zones {
		for i := range z.Free {
			z.Free[i].Type = d.n(3)
		}
		for i := range z.Types {
			z.Types[i] = d.n(3)
		}
	}
	return clone(h)
}

// wantMayBe: may an answer be?
func wantMayBe(t *testing.T, what string, h api.Heap) {
	t.Helper()
	if e := pages.Check(h); e != api.OK {
		t.Errorf("%s: %v may not be: %d", what, h, int(e))
	}
}

// P4.1: ordinary heaps: a region below the split, one above it, one across it, and no region.
func TestNew(t *testing.T) {
	for _, c := range []struct {
		l                  []api.Region
		split, least, cpus int
		low, high          []api.Block
	}{
		{nil, 64, 3, 2, nil, nil},
		{[]api.Region{{From: 0, Size: 16}}, 64, 0, 1, blocks(0, 4, 1), nil},
		{[]api.Region{{From: 60, Size: 8}}, 64, 5, 4, blocks(60, 2, 1), blocks(64, 2, 1)},
		{[]api.Region{{From: 63, Size: 2}}, 64, 5, 4, blocks(63, 0, 1), blocks(64, 0, 1)},
		{[]api.Region{{From: 64, Size: 3}}, 64, 5, 4, nil, blocks(64, 1, 1, 66, 0, 1)},
		{[]api.Region{{From: 61, Size: 3}}, 64, 5, 4, blocks(61, 0, 1, 62, 1, 1), nil},
		{[]api.Region{{From: 1, Size: 6}, {From: 8, Size: 3}, {From: 255, Size: 1}}, 16, 256, 3, blocks(1, 0, 1, 2, 1, 1, 4, 1, 1, 6, 0, 1, 8, 1, 1, 10, 0, 1), blocks(255, 0, 1)},
		{[]api.Region{{From: 14, Size: 4}}, 0, 1, 1, nil, blocks(14, 1, 1, 16, 1, 1)},
		{[]api.Region{{From: 14, Size: 4}}, 256, 1, 1, blocks(14, 1, 1, 16, 1, 1), nil},
	} {
		want := heap(c.split, c.low, c.high)
		want.Mins, want.Cpus = []int{c.least, c.least}, c.cpus
		x, e := pages.New(c.l, c.split, c.least, c.cpus)
		wantHeap(t, fmt.Sprint("New ", c.l, c.split, c.least, c.cpus), x, e, want, api.OK)
	}
}

// regions of pages.
func regions(in *[api.MaxPages]bool) []api.Region {
	var l []api.Region
	for p := range in {
		switch {
		case in[p] && p > 0 && in[p-1]:
			l[len(l)-1].Size++
		case in[p]:
			l = append(l, api.Region{From: p, Size: 1})
		}
	}
	return l
}

// P4.1: drawn regions, at each split; what comes out may be.
func TestNewDrawn(t *testing.T) {
	d := die(401)
	for range 60 {
		var in [api.MaxPages]bool
		for range d.n(30) {
			from, on := d.n(256), d.n(3) > 0
			for p := from; p < min(256, from+d.n(80)); p++ {
				in[p] = on
			}
		}
		l := regions(&in)
		for split := 0; split <= 256; split += 16 {
			low, high := splitAt(freeBlocks(&in), split)
			want := heap(split, low, high)
			want.Mins, want.Cpus = []int{split / 2, split / 2}, 1+split/16%4
			x, e := pages.New(l, split, split/2, want.Cpus)
			wantHeap(t, fmt.Sprint("New ", l, split), x, e, want, api.OK)
			wantMayBe(t, fmt.Sprint("New ", l, split), x)
		}
	}
}

// P4.1: all numbers about their bounds.
func TestNewRange(t *testing.T) {
	all := []api.Region{{From: 0, Size: 256}}
	try := func(split, least, cpus int) {
		t.Helper()
		f := api.OK
		if split < 0 || split > 256 || split%16 != 0 || least < 0 || least > 256 || cpus < 1 || cpus > 4 {
			f = api.ErrRange
		}
		for _, l := range [][]api.Region{nil, all} {
			x, e := pages.New(l, split, least, cpus)
			if e != f || f != api.OK && !same(x, api.Heap{}) {
				t.Errorf("New %v %d %d %d: %v, %d, want %d", l, split, least, cpus, x, int(e), int(f))
			}
		}
	}
	for n := -20; n < 290; n++ {
		try(n, 0, 1)
		try(64, n, 1)
		try(64, 0, n)
		try(0, n, 4)
		try(256, n, 4)
	}
	for _, n := range strange {
		try(n, 0, 1)
		try(64, n, 1)
		try(64, 0, n)
		try(n, n, n)
	}
}

// P4.1: regions that may not be, ahead of numbers that are wrong.
func TestNewState(t *testing.T) {
	many := make([]api.Region, 41)
	for i := range many {
		many[i] = api.Region{From: 2 * i, Size: 1}
	}
	for _, l := range [][]api.Region{
		{{From: 0, Size: 0}},
		{{From: -1, Size: 2}},
		{{From: 255, Size: 2}},
		{{From: 0, Size: 4}, {From: 4, Size: 4}},
		{{From: 0, Size: 4}, {From: 3, Size: 4}},
		{{From: 8, Size: 4}, {From: 0, Size: 4}},
		{{From: math.MaxInt, Size: math.MaxInt}},
		many,
	} {
		for _, n := range [][3]int{{64, 0, 1}, {3, 0, 1}, {64, -1, 1}, {64, 0, 9}, {-1, 999, 0}} {
			x, e := pages.New(l, n[0], n[1], n[2])
			wantHeap(t, fmt.Sprint("New ", l, n), x, e, api.Heap{}, api.ErrState)
		}
	}
	if x, e := pages.New(many[:40], 64, 0, 1); e != api.OK {
		t.Errorf("New of 40 regions: %v, %d", x, int(e))
	}
}

// some: a heap that may be, with something of all.
func some() api.Heap {
	h := heap(32, blocks(0, 2, 1, 8, 3, 0), blocks(32, 4, 2, 50, 1, 1))
	h.Mins = []int{0, 256}
	h.Cpus = 3
	h.Lists = []api.List{list(0, 0, 0, 4), list(0, 0, 2, 6, 5), list(0, 1, 0, 48), list(1, 0, 1, 7), list(2, 1, 2, 63, 62, 61, 60, 59, 58, 57, 56)}
	h.Live = blocks(16, 4, 0, 49, 0, 2, 52, 2, 1, 64, 1, 1, 240, 4, 0)
	return h
}

// P4.2: heaps that may be.
func TestCheckMayBe(t *testing.T) {
	for i, h := range []api.Heap{
		some(),
		heap(0, nil, nil),
		heap(256, nil, nil),
		heap(64, blocks(0, 4, 1), blocks(255, 0, 1)),
		changed(some(), func(h *api.Heap) { h.Mins = []int{256, 0} }),
		changed(some(), func(h *api.Heap) { h.Cpus = 4 }),
		changed(some(), func(h *api.Heap) { h.Lists, h.Live = nil, nil }),
		changed(some(), func(h *api.Heap) { h.Lists, h.Live, h.Cpus = []api.List{}, []api.Block{}, 1 }),
		changed(some(), func(h *api.Heap) { h.Lists[3] = list(2, 0, 2, 7) }),
		changed(some(), func(h *api.Heap) { h.Live = append(h.Live[:4:4], blocks(255, 0, 0)...) }),
		changed(some(), func(h *api.Heap) { h.Live = append(h.Live[:4:4], blocks(66, 1, 1, 68, 1, 1)...) }), // Live blocks may be beside each other
		changed(some(), func(h *api.Heap) { h.Live = append(blocks(12, 2, 1), h.Live...); h.Zones[0].Free[1].Order = 2 }),
		changed(some(), func(h *api.Heap) { h.Lists[2].Pages, h.Live = []int{66, 255, 48}, h.Live[:4] }),
	} {
		if e := pages.Check(h); e != api.OK {
			t.Errorf("Check %d %v: %d, want OK", i, h, int(e))
		}
	}
	d := die(402)
	for range 3000 {
		wantMayBe(t, "a drawn heap", d.heap())
	}
}

// wrong: heaps that may not be, nearly all of them for one thing alone.
func wrong() []api.Heap {
	hows := []func(h *api.Heap){
		func(h *api.Heap) { h.Zones = nil },
		func(h *api.Heap) { h.Zones, h.Lists, h.Live = nil, nil, nil },
		func(h *api.Heap) { h.Zones = h.Zones[:1] },
		func(h *api.Heap) { h.Zones = h.Zones[1:] },
		func(h *api.Heap) { h.Zones = []api.Zone{h.Zones[1], h.Zones[0]} },
		func(h *api.Heap) { h.Zones = append(h.Zones, api.Zone{From: 256, To: 256}) },
		func(h *api.Heap) { h.Zones[0].Free[0].Type = 3 },
		func(h *api.Heap) { h.Zones[1].Free[0].Type = 3 },
		func(h *api.Heap) { h.Zones[0].Types[0] = -1 },
		func(h *api.Heap) { h.Zones[1].Types = h.Zones[1].Types[1:] },
		func(h *api.Heap) { h.Zones[1].Types[0] = 3 },
		func(h *api.Heap) { h.Mins = nil },
		func(h *api.Heap) { h.Mins = h.Mins[:1] },
		func(h *api.Heap) { h.Mins = append(h.Mins, 0) },
		func(h *api.Heap) { h.Mins[0] = -1 },
		func(h *api.Heap) { h.Mins[1] = -1 },
		func(h *api.Heap) { h.Mins[0] = 257 },
		func(h *api.Heap) { h.Mins[1] = 257 },
		func(h *api.Heap) { h.Cpus = 2 }, // there is a list of the third one
		func(h *api.Heap) { h.Cpus, h.Lists = 0, nil },
		func(h *api.Heap) { h.Cpus, h.Lists = -1, nil },
		func(h *api.Heap) { h.Cpus = 5 },
	}
	hows = append(hows, wrongLists()...)
	hows = append(hows, wrongLive()...)
	for _, n := range strange {
		hows = append(hows,
			func(h *api.Heap) { h.Mins[0] = n },
			func(h *api.Heap) { h.Mins[1] = n },
			func(h *api.Heap) { h.Cpus = n },
			func(h *api.Heap) { h.Lists[0].Cpu = n },
			func(h *api.Heap) { h.Lists[4].Cpu = n },
			func(h *api.Heap) { h.Lists[4].Zone = n },
			func(h *api.Heap) { h.Lists[4].Type = n },
			func(h *api.Heap) { h.Lists[2].Pages[0] = n },
			func(h *api.Heap) { h.Lists[4].Pages[7] = n },
			func(h *api.Heap) { h.Live[0].At = n },
			func(h *api.Heap) { h.Live[4].At = n },
			func(h *api.Heap) { h.Live[1].Order = n },
			func(h *api.Heap) { h.Live[1].Type = n },
			func(h *api.Heap) { h.Live[4] = api.Block{At: n, Order: n, Type: n} },
			func(h *api.Heap) { h.Live = blocks(n, 4, 0) },
		)
	}
	l := []api.Heap{{}, {Cpus: 1, Mins: []int{0, 0}}}
	for _, how := range hows {
		l = append(l, changed(some(), how))
	}
	return append(l, wrongSplits()...)
}

// wrongSplits: zones that may be, but not these two.
func wrongSplits() []api.Heap {
	var l []api.Heap
	for _, n := range [][4]int{{0, 32, 48, 256}, {0, 48, 32, 256}, {16, 32, 32, 256}, {0, 32, 32, 240}, {0, 0, 256, 256}, {0, 256, 0, 256}, {0, 256, 240, 256}, {32, 32, 32, 256}, {0, 16, 16, 16}} {
		h := heap(0, nil, nil)
		h.Zones[0], _ = buddy.New(n[0], n[1])
		h.Zones[1], _ = buddy.New(n[2], n[3])
		l = append(l, h)
	}
	return l
}

// wrongLists: how lists make a heap one that may not be.
func wrongLists() []func(h *api.Heap) {
	return []func(h *api.Heap){
		func(h *api.Heap) { h.Lists[4].Cpu = 3 },
		func(h *api.Heap) { h.Lists[0].Cpu = -1 },
		func(h *api.Heap) { h.Lists[4].Zone = 2 },
		func(h *api.Heap) { h.Lists[0].Zone = -1 },
		func(h *api.Heap) { h.Lists[4].Type = 3 },
		func(h *api.Heap) { h.Lists[0].Type = -1 },
		func(h *api.Heap) { h.Lists[0].Pages = nil },
		func(h *api.Heap) { h.Lists[4].Pages = []int{} },
		func(h *api.Heap) { h.Lists[4].Pages = append(h.Lists[4].Pages, 70) },
		func(h *api.Heap) { h.Lists[4].Pages = make([]int, 1<<16) },
		func(h *api.Heap) { h.Lists[0], h.Lists[1] = h.Lists[1], h.Lists[0] }, // by types
		func(h *api.Heap) { h.Lists[1], h.Lists[2] = h.Lists[2], h.Lists[1] }, // by zones ahead of types
		func(h *api.Heap) { h.Lists[2], h.Lists[3] = h.Lists[3], h.Lists[2] }, // by processors ahead of zones
		func(h *api.Heap) { h.Lists[3], h.Lists[4] = h.Lists[4], h.Lists[3] },
		func(h *api.Heap) { h.Lists[1].Type = 0 },                             // two of the same
		func(h *api.Heap) { h.Lists = append(h.Lists, list(2, 1, 2, 70)) },    // two of the same, the last ones
		func(h *api.Heap) { h.Lists[2].Pages[0] = 31; h.Live = h.Live[1:] },   // of the first zone
		func(h *api.Heap) { h.Lists[1].Pages[0] = 70 },                        // of the second zone
		func(h *api.Heap) { h.Lists[1].Pages[1] = 32; h.Zones[1].Free = nil }, // the first one of the second zone
		func(h *api.Heap) { h.Lists[2].Pages[0] = 256 },                       // there is no such page
		func(h *api.Heap) { h.Lists[0].Pages[0] = -1 },                        // there is no such page
		func(h *api.Heap) { h.Lists[1].Pages = []int{6, 6} },                  // twice on a list
		func(h *api.Heap) { h.Lists[4].Pages[7] = 63 },                        // twice on a list
		func(h *api.Heap) { h.Lists[3].Pages[0] = 5 },                         // on two lists
		func(h *api.Heap) { h.Lists[4].Pages[3] = 48 },                        // on two lists
		func(h *api.Heap) { h.Lists[0].Pages[0] = 3 },                         // free
		func(h *api.Heap) { h.Lists[0].Pages[0] = 15 },                        // free
		func(h *api.Heap) { h.Lists[2].Pages[0] = 47 },                        // free
		func(h *api.Heap) { h.Lists[2].Pages[0] = 49 },                        // Live
		func(h *api.Heap) { h.Lists[2].Pages[0] = 55 },                        // Live
		func(h *api.Heap) { h.Lists[0].Pages[0] = 16 },                        // Live
		func(h *api.Heap) { h.Lists = slices.Repeat([]api.List{list(0, 0, 0, 4)}, 50) },
	}
}

// wrongLive: how Live blocks make a heap one that may not be.
func wrongLive() []func(h *api.Heap) {
	return []func(h *api.Heap){
		func(h *api.Heap) { h.Live[1].Order = -1 },
		func(h *api.Heap) { h.Live[4].Order = 5 },
		func(h *api.Heap) { h.Live = blocks(64, 5, 0) },
		func(h *api.Heap) { h.Live[1].Type = -1 },
		func(h *api.Heap) { h.Live[4].Type = 3 },
		func(h *api.Heap) { h.Live[4].At = 256 },
		func(h *api.Heap) { h.Live[0].At = -16 },
		func(h *api.Heap) { h.Live = append(h.Live, blocks(256, 0, 0)...) },
		func(h *api.Heap) { h.Live[3].At = 65 },   // no multiple of 2
		func(h *api.Heap) { h.Live[2].At = 66 },   // no multiple of 4
		func(h *api.Heap) { h.Live[3].Order = 5 }, // a multiple of 32
		func(h *api.Heap) { h.Live = blocks(68, 3, 0) },
		func(h *api.Heap) { h.Live = blocks(72, 4, 0) },
		func(h *api.Heap) { h.Live[0], h.Live[1] = h.Live[1], h.Live[0] },
		func(h *api.Heap) { h.Live[3], h.Live[4] = h.Live[4], h.Live[3] },
		func(h *api.Heap) { h.Live[4] = h.Live[3] },                           // twice
		func(h *api.Heap) { h.Live[4] = api.Block{At: 64} },                   // at one place
		func(h *api.Heap) { h.Live[4] = api.Block{At: 65} },                   // a page in common
		func(h *api.Heap) { h.Live = append(h.Live, blocks(255, 0, 1)...) },   // a page in common
		func(h *api.Heap) { h.Live[1].At = 32 },                               // the first page is free
		func(h *api.Heap) { h.Live[1].At = 51 },                               // the last page is free
		func(h *api.Heap) { h.Live = blocks(0, 4, 0) },                        // all are free, or on lists
		func(h *api.Heap) { h.Live = blocks(8, 3, 0) },                        // all are free
		func(h *api.Heap) { h.Live = blocks(6, 0, 0) },                        // on a list
		func(h *api.Heap) { h.Live = blocks(56, 3, 0) },                       // all are on a list
		func(h *api.Heap) { h.Live = blocks(48, 0, 0) },                       // on a list
		func(h *api.Heap) { h.Live = make([]api.Block, 1<<16) },               // all at one place
		func(h *api.Heap) { h.Live = slices.Repeat(blocks(64, 1, 0), 1<<16) }, // so, too
	}
}

// P4.2: heaps that may not be.
func TestCheckWrong(t *testing.T) {
	for i, h := range wrong() {
		if e := pages.Check(h); e != api.ErrState {
			t.Errorf("Check %d %v: %d, want ErrState", i, h, int(e))
		}
	}
}

// P4.2: in drawn heaps one page more is in a place: it may be, if it is in no other one.
func TestCheckTwice(t *testing.T) {
	d := die(403)
	for range 60 {
		h := d.heap()
		var in [api.MaxPages]bool
		for _, l := range [][]api.Block{h.Zones[0].Free, h.Zones[1].Free, h.Live} {
			for _, b := range l {
				for i := range 1 << b.Order {
					in[b.At+i] = true
				}
			}
		}
		for _, l := range h.Lists {
			for _, p := range l.Pages {
				in[p] = true
			}
		}
		for p := range in {
			f := api.OK
			if in[p] {
				f = api.ErrState
			}
			m := modelOf(h)
			if _, ok := m.live[p]; !ok {
				m.live[p] = api.Block{At: p}
				if e := pages.Check(m.heap()); e != f {
					t.Errorf("Check %v, with the Live page %d: %d, want %d", h, p, int(e), int(f))
				}
			}
			m = modelOf(h)
			me := owner{d.n(h.Cpus), zoneOf(h.Zones, p), d.n(3)}
			if len(m.lists[me]) < 8 {
				m.lists[me] = append(m.lists[me], p)
				if e := pages.Check(m.heap()); e != f {
					t.Errorf("Check %v, with the page %d on a list: %d, want %d", h, p, int(e), int(f))
				}
			}
		}
	}
}

// P4.2: Copy, also of what may not be.
func TestCopy(t *testing.T) {
	l := append(wrong(), some(), heap(64, blocks(0, 4, 1), nil))
	l = append(l, api.Heap{Zones: make([]api.Zone, 3), Lists: make([]api.List, 2), Mins: []int{9}, Cpus: -4})
	d := die(404)
	for range 300 {
		l = append(l, d.heap())
	}
	for _, h := range l {
		wantHeap(t, "Copy", pages.Copy(h), api.OK, h, api.OK)
	}
}

// P4.2: all others refuse what Check refuses, ahead of all else.
func TestRefused(t *testing.T) {
	for i, h := range wrong() {
		for _, n := range [][3]int{{0, 0, 0}, {-1, 0, 0}, {0, 9, 0}, {0, 0, 6}, {9, -1, -1}, {0, 4, 11}, {0, 49, 2}} {
			what := fmt.Sprint(" of the wrong heap ", i, " ", n)
			x, at, e := pages.Alloc(h, n[0], n[1], n[2])
			wantHeap(t, "Alloc"+what, x, e, api.Heap{}, api.ErrState)
			if at != 0 {
				t.Errorf("Alloc%s: %d", what, at)
			}
			x, e = pages.Free(h, n[0], n[1])
			wantHeap(t, "Free"+what, x, e, api.Heap{}, api.ErrState)
		}
		x, e := pages.Drain(h)
		wantHeap(t, fmt.Sprint("Drain of the wrong heap ", i), x, e, api.Heap{}, api.ErrState)
	}
}

// P4.3: what is wrong: the processor and the order ahead of the flags, these ahead of there being none.
func TestAllocWrong(t *testing.T) {
	full := heap(64, blocks(0, 4, 1), blocks(64, 4, 1))
	for _, h := range []api.Heap{full, heap(64, nil, nil), some()} {
		for _, flags := range []int{0, 2, 6, -1, 16, 15} {
			for _, n := range append([]int{-1, h.Cpus, h.Cpus + 1, 99}, strange...) {
				wantAlloc(t, h, n, 0, flags, api.Heap{}, 0, api.ErrRange)
				wantAlloc(t, h, n, 2, flags, api.Heap{}, 0, api.ErrRange)
				wantAlloc(t, h, n, n, flags, api.Heap{}, 0, api.ErrRange)
			}
			for _, n := range append([]int{-1, 5, 6, 63, 64}, strange...) {
				wantAlloc(t, h, 0, n, flags, api.Heap{}, 0, api.ErrRange)
				wantAlloc(t, h, h.Cpus-1, n, flags, api.Heap{}, 0, api.ErrRange)
			}
		}
		for _, flags := range append([]int{-1, -2, -8, 6, 7, 14, 15, 16, 17, 18, 32, 1 << 40}, strange...) {
			wantAlloc(t, h, 0, 0, flags, api.Heap{}, 0, api.ErrForm)
			wantAlloc(t, h, h.Cpus-1, 4, flags, api.Heap{}, 0, api.ErrForm)
		}
	}
	for o := range 5 {
		for _, flags := range allFlags {
			wantAlloc(t, heap(64, nil, nil), 0, o, flags, api.Heap{}, 0, api.ErrRoom)
		}
	}
}

// P4.3: the type that is asked, and the Live block, among others by its place.
func TestAllocLive(t *testing.T) {
	for flags, kind := range map[int]int{0: 0, 2: 1, 4: 2, 8: 0, 10: 1, 12: 2} {
		h := heap(64, nil, blocks(80, 4, kind))
		h.Live = blocks(64, 4, 0, 96, 0, 2)
		want := heap(64, nil, blocks(84, 2, kind, 88, 3, kind))
		want.Live = blocks(64, 4, 0, 80, 2, kind, 96, 0, 2)
		wantAlloc(t, h, 3, 2, flags, want, 80, api.OK)
	}
	for flags, kind := range map[int]int{1: 0, 3: 1, 5: 2, 9: 0, 11: 1, 13: 2} {
		h := heap(64, blocks(16, 4, kind), nil)
		want := heap(64, nil, nil)
		want.Live = blocks(16, 4, kind)
		wantAlloc(t, h, 0, 4, flags, want, 16, api.OK)
	}
	// The first one and the last one of the Live blocks; for another type what is free is stolen (P3.7).
	h := heap(64, nil, blocks(64, 4, 1))
	h.Live = blocks(80, 0, 1)
	want := heap(64, nil, blocks(72, 3, 0))
	want.Zones[1].Types[0], want.Zones[1].Types[1] = 0, 0
	want.Live = blocks(64, 3, 0, 80, 0, 1)
	wantAlloc(t, h, 0, 3, 0, want, 64, api.OK)
	h.Live = blocks(3, 0, 1)
	want.Live = blocks(3, 0, 1, 64, 3, 0)
	wantAlloc(t, h, 0, 3, 0, want, 64, api.OK)
}

// P4.4: Min pages of a zone stay free, with Urgent half of that, less what is left.
func TestHeldBack(t *testing.T) {
	for least := range 20 {
		for o := range 5 {
			size := 1 << o
			h := heap(256, blocks(0, 4, 1), nil)
			h.Mins = []int{least, 0}
			wantRoom(t, h, o, api.Low, 16-size >= least)
			wantRoom(t, h, o, 0, 16-size >= least)
			wantRoom(t, h, o, api.Moves|api.Urgent, 16-size >= least/2)
			wantRoom(t, h, o, api.Low|api.Urgent, 16-size >= least/2)
			h = heap(0, nil, blocks(0, 4, 1))
			h.Mins = []int{0, least}
			wantRoom(t, h, o, 0, 16-size >= least)
			wantRoom(t, h, o, api.Reclaims|api.Urgent, 16-size >= least/2)
		}
	}
	// Each zone has a Min of its own.
	h := heap(128, blocks(0, 4, 1), blocks(128, 4, 1))
	h.Mins = []int{16, 0}
	wantRoom(t, h, 4, 0, true)
	wantRoom(t, h, 4, api.Low, false)
	h.Mins = []int{0, 16}
	wantRoom(t, h, 4, 0, false) // of the first zone four pages are held back
	wantRoom(t, h, 3, 0, true)
	wantRoom(t, h, 4, api.Low, true)
	h.Mins = []int{0, 256}
	wantRoom(t, h, 3, api.Urgent, true)
}

// P4.4: of the first zone a page more for each 32 that the second one spans is held back, unless with Low.
func TestHeldBackLow(t *testing.T) {
	for split := 16; split <= 256; split += 16 {
		more := (256 - split) / 32
		for least := range 5 {
			for o := range 4 {
				h := heap(split, blocks(0, 4, 1), nil)
				h.Mins = []int{least, 7}
				wantRoom(t, h, o, 0, 16-1<<o >= least+more)
				wantRoom(t, h, o, api.Urgent, 16-1<<o >= least/2+more)
				wantRoom(t, h, o, api.Low, 16-1<<o >= least)
				wantRoom(t, h, o, api.Low|api.Urgent, 16-1<<o >= least/2)
			}
		}
	}
	// The second zone spans its pages, whatever is free of them; of it nothing more is held back.
	h := heap(64, blocks(0, 2, 1), blocks(64, 1, 1))
	wantRoom(t, h, 1, 0, true)
	wantRoom(t, h, 2, 0, false)
	wantRoom(t, h, 2, api.Low, true)
}

// P4.5: the second zone is tried first, then the first one; with Low the first one alone.
func TestZones(t *testing.T) {
	h := heap(224, blocks(0, 3, 1), blocks(224, 3, 1))
	want := heap(224, blocks(0, 3, 1), blocks(228, 2, 1))
	want.Live = blocks(224, 2, 1)
	wantAlloc(t, h, 0, 2, api.Moves, want, 224, api.OK)
	want = heap(224, blocks(4, 2, 1), blocks(224, 3, 1))
	want.Live = blocks(0, 2, 1)
	wantAlloc(t, h, 0, 2, api.Moves|api.Low, want, 0, api.OK)
	// The second one has none: what is held back, or no block so great.
	h.Mins[1] = 5
	want.Mins[1] = 5
	wantAlloc(t, h, 0, 2, api.Moves, want, 0, api.OK)
	h = heap(224, blocks(0, 3, 1), blocks(224, 1, 1, 228, 1, 1))
	want = heap(224, blocks(4, 2, 1), blocks(224, 1, 1, 228, 1, 1))
	want.Live = blocks(0, 2, 1)
	wantAlloc(t, h, 0, 2, api.Moves, want, 0, api.OK)
	// With Low there is none, though the second zone has some.
	wantAlloc(t, heap(224, nil, blocks(224, 3, 1)), 0, 2, api.Moves|api.Low, api.Heap{}, 0, api.ErrRoom)
	// A single page of the second zone comes ahead of the first zone's list.
	h = heap(224, nil, blocks(240, 0, 1))
	h.Lists = []api.List{list(0, 0, 1, 5)}
	want = heap(224, nil, nil)
	want.Lists, want.Live = h.Lists, blocks(240, 0, 1)
	wantAlloc(t, h, 0, 0, api.Moves, want, 240, api.OK)
	// With Low the second zone's list is not asked.
	h.Lists = []api.List{list(0, 0, 1, 5), list(0, 1, 1, 250)}
	want = heap(224, nil, blocks(240, 0, 1))
	want.Lists, want.Live = h.Lists[1:], blocks(5, 0, 1)
	wantAlloc(t, h, 0, 0, api.Moves|api.Low, want, 5, api.OK)
}

// P4.5: a single page is the last one of the list of its processor, zone and type, whatever is held back.
func TestAllocList(t *testing.T) {
	h := heap(224, blocks(0, 3, 1), blocks(224, 3, 1))
	h.Mins = []int{256, 256}
	h.Lists = []api.List{list(0, 1, 1, 240, 250, 245), list(1, 1, 0, 241), list(1, 1, 1, 242, 243), list(1, 1, 2, 251), list(2, 1, 1, 252)}
	want := clone(h)
	want.Lists[0].Pages = []int{240, 250}
	want.Live = blocks(245, 0, 1)
	wantAlloc(t, h, 0, 0, api.Moves, want, 245, api.OK)
	want = clone(h)
	want.Lists[2].Pages = []int{242}
	want.Live = blocks(243, 0, 1)
	wantAlloc(t, h, 1, 0, api.Moves|api.Urgent, want, 243, api.OK)
	// With its last page a list goes.
	want = clone(h)
	want.Lists = slices.Delete(want.Lists, 1, 2)
	want.Live = blocks(241, 0, 0)
	wantAlloc(t, h, 1, 0, 0, want, 241, api.OK)
	want = clone(h)
	want.Lists = slices.Delete(want.Lists, 3, 4)
	want.Live = blocks(251, 0, 2)
	wantAlloc(t, h, 1, 0, api.Reclaims, want, 251, api.OK)
	want = clone(h)
	want.Lists = want.Lists[:4]
	want.Live = blocks(252, 0, 1)
	wantAlloc(t, h, 2, 0, api.Moves, want, 252, api.OK)
	// Another processor's list, or that of another type, is not asked: nor are lists for more than one page.
	wantAlloc(t, h, 3, 0, api.Moves, api.Heap{}, 0, api.ErrRoom)
	wantAlloc(t, h, 0, 0, 0, api.Heap{}, 0, api.ErrRoom)
	wantAlloc(t, h, 0, 1, api.Moves, api.Heap{}, 0, api.ErrRoom)
}

// P4.5: without a list a page is taken, and up to three more, in their order, make up the list, among the others by its owner.
func TestAllocBatch(t *testing.T) {
	h := heap(224, nil, blocks(224, 0, 1, 226, 1, 1, 240, 1, 1))
	h.Lists = []api.List{list(1, 1, 0, 255), list(1, 1, 2, 254)}
	want := heap(224, nil, blocks(240, 1, 1))
	want.Lists = []api.List{h.Lists[0], list(1, 1, 1, 226, 227, 240), h.Lists[1]}
	want.Zones[1].Free = blocks(241, 0, 1)
	want.Live = blocks(224, 0, 1)
	wantAlloc(t, h, 1, 0, api.Moves, want, 224, api.OK)
	// The last one of all lists, and the first one.
	want.Lists = []api.List{h.Lists[0], h.Lists[1], list(3, 1, 1, 226, 227, 240)}
	wantAlloc(t, h, 3, 0, api.Moves, want, 224, api.OK)
	want.Lists = []api.List{list(0, 1, 1, 226, 227, 240), h.Lists[0], h.Lists[1]}
	wantAlloc(t, h, 0, 0, api.Moves, want, 224, api.OK)
	// Not for more than one page.
	want = heap(224, nil, blocks(224, 0, 1, 240, 1, 1))
	want.Lists, want.Live = h.Lists, blocks(226, 1, 1)
	wantAlloc(t, h, 1, 1, api.Moves, want, 226, api.OK)
	// As long as they can be: fewer are free, or may be taken.
	for n := range 6 {
		h := heap(224, nil, blocks(240, 2, 1, 250, 0, 1))
		h.Mins[1] = n
		if n == 5 {
			wantAlloc(t, h, 2, 0, api.Moves, api.Heap{}, 0, api.ErrRoom)
			continue
		}
		l := []int{250, 240, 241, 242, 243}[:min(4, 5-n)]
		want := clone(h)
		want.Zones[1].Free = [][]api.Block{blocks(243, 0, 1), blocks(243, 0, 1), blocks(242, 1, 1), blocks(241, 0, 1, 242, 1, 1), blocks(240, 2, 1)}[n]
		if len(l) > 1 {
			want.Lists = []api.List{list(2, 1, 1, l[1:]...)}
		}
		want.Live = blocks(250, 0, 1)
		wantAlloc(t, h, 2, 0, api.Moves, want, 250, api.OK)
	}
	// The list is that of the type that is asked, though the pages are of another one.
	h = heap(224, nil, blocks(226, 1, 1, 240, 0, 1))
	want = heap(224, nil, nil)
	want.Lists, want.Live = []api.List{list(2, 1, 2, 227, 240)}, blocks(226, 0, 2)
	wantAlloc(t, h, 2, 0, api.Reclaims, want, 226, api.OK)
}

// P4.5: if nothing was found all lists are drained, and all is tried once more.
func TestAllocDrains(t *testing.T) {
	// Eight pages, of lists of two processors, and free ones, are one block; a list of the other zone is drained, too.
	h := heap(224, blocks(0, 0, 1), blocks(226, 1, 1))
	h.Lists = []api.List{list(0, 0, 0, 3, 1), list(0, 1, 0, 231, 224), list(3, 1, 1, 228, 230, 225, 229)}
	want := heap(224, blocks(0, 1, 1, 3, 0, 1), nil)
	want.Live = blocks(224, 3, 2)
	want.Zones[1].Types[0] = 2
	wantAlloc(t, h, 2, 3, api.Reclaims, want, 224, api.OK)
	// So for the first zone alone; the second zone's lists are drained, too.
	want = heap(224, blocks(3, 0, 1), blocks(224, 3, 1))
	want.Live = blocks(0, 1, 1)
	wantAlloc(t, h, 1, 1, api.Low|api.Moves, want, 0, api.OK)
	// A single page of another processor's list, then more of it for its own list.
	h = heap(224, nil, nil)
	h.Lists = []api.List{list(0, 1, 1, 255, 250, 245, 240, 230)}
	want = heap(224, nil, blocks(255, 0, 1))
	want.Lists, want.Live = []api.List{list(1, 1, 1, 240, 245, 250)}, blocks(230, 0, 1)
	wantAlloc(t, h, 1, 0, api.Moves, want, 230, api.OK)
	// What is drained counts for what is held back.
	h.Mins[1] = 4
	want = heap(224, nil, blocks(240, 0, 1, 245, 0, 1, 250, 0, 1, 255, 0, 1))
	want.Mins[1] = 4
	want.Live = blocks(230, 0, 1)
	wantAlloc(t, h, 1, 0, api.Moves, want, 230, api.OK)
	h.Mins[1] = 5
	wantAlloc(t, h, 1, 0, api.Moves, api.Heap{}, 0, api.ErrRoom)
	// If something was found lists stay.
	h = heap(224, blocks(8, 2, 1), nil)
	h.Lists = []api.List{list(0, 1, 1, 240, 241, 242, 243)}
	want = heap(224, nil, nil)
	want.Lists, want.Live = h.Lists, blocks(8, 2, 1)
	h.Zones[0].Free = blocks(8, 2, 1, 16, 0, 1)
	want.Zones[0].Free = blocks(16, 0, 1)
	wantAlloc(t, h, 1, 2, api.Moves, want, 8, api.OK)
}

// P4.3 to P4.5: all that may be asked, of drawn heaps; what comes out may be, too.
func TestAllocDrawn(t *testing.T) {
	d := die(405)
	for range 200 {
		h := d.heap()
		for cpu := range h.Cpus {
			for o := range 5 {
				for _, flags := range allFlags {
					m := modelOf(h)
					at, f := m.alloc(cpu, o, flags)
					wantAlloc(t, h, cpu, o, flags, m.answered(f), at, f)
					if x, _, e := pages.Alloc(h, cpu, o, flags); e == api.OK {
						wantMayBe(t, "what Alloc answered", x)
					}
				}
			}
		}
	}
}

// P4.6: a single page comes behind the others on the list of the processor, its zone, and its group's type.
func TestFreeSingle(t *testing.T) {
	h := heap(32, nil, nil)
	h.Zones[0].Types = []int{0, 1, 2, 1}
	h.Zones[1].Types[1] = 2
	h.Lists = []api.List{list(0, 0, 1, 9, 8), list(1, 1, 1, 33)}
	h.Live = blocks(3, 0, 2, 10, 0, 0, 16, 0, 0, 31, 0, 2, 32, 0, 0, 40, 0, 1, 255, 0, 1)
	for _, c := range []struct {
		cpu, at int
		lists   []api.List
	}{
		{0, 10, []api.List{list(0, 0, 1, 9, 8, 10), h.Lists[1]}},
		{1, 10, []api.List{h.Lists[0], list(1, 0, 1, 10), h.Lists[1]}},
		{0, 3, []api.List{list(0, 0, 0, 3), h.Lists[0], h.Lists[1]}},
		{0, 16, []api.List{h.Lists[0], list(0, 0, 2, 16), h.Lists[1]}},
		{0, 31, []api.List{list(0, 0, 1, 9, 8, 31), h.Lists[1]}},
		{1, 32, []api.List{h.Lists[0], list(1, 1, 1, 33, 32)}},
		{0, 32, []api.List{h.Lists[0], list(0, 1, 1, 32), h.Lists[1]}},
		{1, 40, []api.List{h.Lists[0], h.Lists[1], list(1, 1, 2, 40)}},
		{3, 255, []api.List{h.Lists[0], h.Lists[1], list(3, 1, 1, 255)}},
	} {
		want := clone(h)
		want.Lists = c.lists
		want.Live = slices.DeleteFunc(want.Live, func(b api.Block) bool { return b.At == c.at })
		wantFree(t, h, c.cpu, c.at, want, api.OK)
	}
}

// P4.6: with more than eight pages the first four of a list go back, one by one.
func TestFreeHigh(t *testing.T) {
	h := heap(32, nil, blocks(37, 0, 0))
	h.Zones[1].Types[0] = 2
	h.Lists = []api.List{list(0, 1, 2, 36, 64, 39, 38, 50, 52, 54, 56), list(1, 1, 2, 34)}
	h.Live = blocks(35, 0, 0)
	want := heap(32, nil, blocks(36, 2, 2, 64, 0, 1))
	want.Zones[1].Types[0] = 2
	want.Lists = []api.List{list(0, 1, 2, 50, 52, 54, 56, 35), list(1, 1, 2, 34)}
	wantFree(t, h, 0, 35, want, api.OK)
	// The eighth one stays.
	h.Lists[0].Pages = h.Lists[0].Pages[1:]
	want = clone(h)
	want.Lists[0].Pages = append(want.Lists[0].Pages, 35)
	want.Live = nil
	wantFree(t, h, 0, 35, want, api.OK)
}

// P4.6: all other blocks go back at once.
func TestFreeBlock(t *testing.T) {
	h := heap(32, blocks(0, 1, 0, 4, 2, 1), blocks(36, 2, 1))
	h.Lists = []api.List{list(0, 1, 1, 40)}
	h.Live = blocks(2, 1, 0, 16, 4, 2, 32, 2, 1, 48, 3, 0)
	for _, c := range []struct {
		at        int
		low, high []api.Block
	}{
		{2, blocks(0, 3, 1), blocks(36, 2, 1)},
		{16, blocks(0, 1, 0, 4, 2, 1, 16, 4, 1), blocks(36, 2, 1)},
		{32, blocks(0, 1, 0, 4, 2, 1), blocks(32, 3, 1)},
		{48, blocks(0, 1, 0, 4, 2, 1), blocks(36, 2, 1, 48, 3, 1)},
	} {
		want := heap(32, c.low, c.high)
		want.Lists = h.Lists
		want.Live = slices.DeleteFunc(slices.Clone(h.Live), func(b api.Block) bool { return b.At == c.at })
		for cpu := range 4 {
			wantFree(t, h, cpu, c.at, want, api.OK)
		}
	}
}

// P4.6: what is wrong: the processor ahead of the place; a block is Live by its first page alone.
func TestFreeWrong(t *testing.T) {
	h := some()
	for _, at := range append([]int{0, 16, 49, 64, 4, 300, -1}, strange...) {
		for _, cpu := range append([]int{-1, 3, 4}, strange...) {
			wantFree(t, h, cpu, at, api.Heap{}, api.ErrRange)
		}
	}
	for at := -20; at < 300; at++ {
		if slices.ContainsFunc(h.Live, func(b api.Block) bool { return b.At == at }) {
			continue
		}
		wantFree(t, h, 2, at, api.Heap{}, api.ErrNone)
	}
	for _, at := range strange {
		wantFree(t, h, 0, at, api.Heap{}, api.ErrNone)
	}
}

// P4.6: all places of drawn heaps; what comes out may be, too.
func TestFreeDrawn(t *testing.T) {
	d := die(406)
	for range 200 {
		h := d.heap()
		for at := range 256 {
			for cpu := range h.Cpus {
				m := modelOf(h)
				f := m.free(cpu, at)
				wantFree(t, h, cpu, at, m.answered(f), f)
				if x, e := pages.Free(h, cpu, at); e == api.OK {
					wantMayBe(t, "what Free answered", x)
				}
			}
		}
	}
}

// P4.7: the pages of all lists are free; all else stays.
func TestDrain(t *testing.T) {
	h := some()
	want := heap(32, blocks(0, 4, 1), blocks(32, 4, 2, 48, 0, 1, 50, 1, 1, 56, 3, 1))
	want.Mins, want.Cpus, want.Live = h.Mins, h.Cpus, h.Live
	x, e := pages.Drain(h)
	wantHeap(t, "Drain", x, e, want, api.OK)
	x, e = pages.Drain(want)
	wantHeap(t, "Drain of no lists", x, e, want, api.OK)
	d := die(407)
	for range 2000 {
		h := d.heap()
		m := modelOf(h)
		m.drain()
		x, e := pages.Drain(h)
		wantHeap(t, fmt.Sprint("Drain ", h), x, e, m.heap(), api.OK)
		wantMayBe(t, fmt.Sprint("Drain ", h), x)
	}
}

// Drawn calls, one behind the other, from New on: no page is lost, none is given away twice, and all come back.
func TestRoundTrip(t *testing.T) {
	d := die(408)
	for range 150 {
		from, size := d.n(100), 1+d.n(150)
		h, _ := pages.New([]api.Region{{From: from, Size: size}}, 16*d.n(17), d.n(12), 4)
		first, m := h, modelOf(h)
		for range 80 {
			if d.n(3) > 0 {
				cpu, o, flags := d.n(4), d.n(d.n(5)+1), allFlags[d.n(12)]
				at, f := m.alloc(cpu, o, flags)
				wantAlloc(t, h, cpu, o, flags, m.answered(f), at, f)
			} else if len(h.Live) > 0 {
				cpu, at := d.n(4), h.Live[d.n(len(h.Live))].At
				f := m.free(cpu, at)
				wantFree(t, h, cpu, at, m.answered(f), f)
			}
			// With ErrRoom nothing is changed: the lists are as they were.
			if y := m.heap(); len(y.Live) != len(h.Live) {
				h = clone(y)
			}
			m = modelOf(h)
			wantMayBe(t, "on the way", h)
			if n := countPages(h); n != size {
				t.Fatalf("%d pages, want %d: %v", n, size, h)
			}
		}
		for len(h.Live) > 0 {
			h, _ = pages.Free(h, d.n(4), h.Live[d.n(len(h.Live))].At)
		}
		h, _ = pages.Drain(h)
		for z := range 2 {
			sameBlock := func(a, b api.Block) bool { return a.At == b.At && a.Order == b.Order }
			if !slices.EqualFunc(h.Zones[z].Free, first.Zones[z].Free, sameBlock) {
				t.Errorf("all is back: %v, want %v", h.Zones[z].Free, first.Zones[z].Free)
			}
		}
	}
}

// countPages: how many there are in all places.
func countPages(h api.Heap) int {
	n := 0
	for _, l := range [][]api.Block{h.Zones[0].Free, h.Zones[1].Free, h.Live} {
		for _, b := range l {
			n += 1 << b.Order
		}
	}
	for _, l := range h.Lists {
		n += len(l.Pages)
	}
	return n
}

// spare: the same elements, with room behind them that is filled, too.
func spare[T any](l []T, fill T) []T {
	out := append(make([]T, 0, len(l)+3), l...)
	return append(out, fill, fill, fill)[:len(l)]
}

var noBlock = api.Block{At: -7, Order: -7, Type: -7}

// spareHeap: the same heap, with spare room everywhere.
func spareHeap(h api.Heap) api.Heap {
	x := clone(h)
	for i, z := range x.Zones {
		x.Zones[i].Free, x.Zones[i].Types = spare(z.Free, noBlock), spare(z.Types, -7)
	}
	for i, l := range x.Lists {
		x.Lists[i].Pages = spare(l.Pages, -7)
	}
	x.Zones, x.Mins = spare(x.Zones, api.Zone{From: -7}), spare(x.Mins, -7)
	x.Lists, x.Live = spare(x.Lists, api.List{Cpu: -7}), spare(x.Live, noBlock)
	return x
}

// whole: with its spare room, as a text.
func whole(h api.Heap) string {
	h.Zones, h.Mins, h.Lists, h.Live = slices.Clone(h.Zones[:cap(h.Zones)]), h.Mins[:cap(h.Mins)], slices.Clone(h.Lists[:cap(h.Lists)]), h.Live[:cap(h.Live)]
	for i, z := range h.Zones {
		h.Zones[i].Free, h.Zones[i].Types = z.Free[:cap(z.Free)], z.Types[:cap(z.Types)]
	}
	for i, l := range h.Lists {
		h.Lists[i].Pages = l.Pages[:cap(l.Pages)]
	}
	return fmt.Sprint(h)
}

// fill a list, with its spare room.
func fill[T any](l []T, with T) {
	l = l[:cap(l)]
	for i := range l {
		l[i] = with
	}
}

// spoilers: for each list within an answer one that fills it, with its spare room.
func spoilers(h api.Heap) []func() {
	l := []func(){func() { fill(h.Mins, -9) }, func() { fill(h.Live, noBlock) }}
	for _, z := range h.Zones[:cap(h.Zones)] {
		l = append(l, func() { fill(z.Free, noBlock) }, func() { fill(z.Types, -9) })
	}
	for _, x := range h.Lists[:cap(h.Lists)] {
		l = append(l, func() { fill(x.Pages, -9) })
	}
	return append(l, func() { fill(h.Zones, api.Zone{From: -9}) }, func() { fill(h.Lists, api.List{Cpu: -9}) })
}

// calls: all that are handed a heap, as functions of that alone.
func calls() map[string]func(api.Heap) api.Heap {
	m := map[string]func(api.Heap) api.Heap{
		"Copy":  pages.Copy,
		"Check": func(h api.Heap) api.Heap { pages.Check(h); return api.Heap{} },
		"Drain": func(h api.Heap) api.Heap { x, _ := pages.Drain(h); return x },
	}
	for cpu := range 2 {
		for o := range 6 {
			for _, flags := range []int{0, 1, 2, 5, 6} {
				m[fmt.Sprint("Alloc ", cpu, o, flags)] = func(h api.Heap) api.Heap { x, _, _ := pages.Alloc(h, cpu, o, flags); return x }
			}
		}
		for i := range 8 {
			m[fmt.Sprint("Free ", cpu, i)] = func(h api.Heap) api.Heap {
				if len(h.Live) == 0 {
					return api.Heap{}
				}
				x, _ := pages.Free(h, cpu, h.Live[i%len(h.Live)].At)
				return x
			}
		}
	}
	return m
}

// What is handed in stays as it was, and what comes out is new memory, spare room too; no two lists of an answer share any.
func TestNewMemory(t *testing.T) {
	d := die(409)
	l := []api.Heap{some(), {}, changed(some(), func(h *api.Heap) { h.Cpus = 0 }), heap(64, blocks(0, 4, 1), blocks(64, 4, 1))}
	for range 25 {
		l = append(l, d.heap())
	}
	for name, call := range calls() {
		for _, h := range l {
			in := spareHeap(h)
			before := whole(in)
			x := call(in)
			kept, want := clone(x), clone(call(in))
			if !same(kept, want) {
				t.Errorf("%s %v: %v, then %v", name, h, kept, want)
			}
			other := call(in)
			for _, spoil := range spoilers(x) {
				spoil()
			}
			if !same(other, want) {
				t.Errorf("%s %v: two answers share memory: %v", name, h, other)
			}
			if whole(in) != before {
				t.Errorf("%s %v: what was handed in changed: %v", name, h, in)
			}
			wantApart(t, name, other)
		}
	}
}

// wantApart: does no list of an answer share memory with another one? Each one is filled in turn: no other one changes then.
func wantApart(t *testing.T, name string, h api.Heap) {
	t.Helper()
	zones, lists := slices.Clone(h.Zones[:cap(h.Zones)]), slices.Clone(h.Lists[:cap(h.Lists)])
	texts := func() []string {
		l := []string{fmt.Sprint(h.Mins), fmt.Sprint(h.Live)}
		for _, z := range zones {
			l = append(l, fmt.Sprint(z.Free), fmt.Sprint(z.Types))
		}
		for _, x := range lists {
			l = append(l, fmt.Sprint(x.Pages))
		}
		return append(l, "zones", "lists")
	}
	for i, spoil := range spoilers(h) {
		before := texts()
		spoil()
		after := texts()
		before[i], after[i] = "", ""
		if !slices.Equal(before, after) {
			t.Errorf("%s: two lists of an answer share memory: %v, then %v", name, before, after)
		}
	}
}

// New keeps nothing of its regions, and tells new memory each time.
func TestNewMemoryOfNew(t *testing.T) {
	l := spare([]api.Region{{From: 3, Size: 70}, {From: 200, Size: 9}}, api.Region{From: -7, Size: -7})
	x, _ := pages.New(l, 64, 3, 2)
	y, _ := pages.New(l, 64, 3, 2)
	want := clone(y)
	for _, spoil := range spoilers(x) {
		spoil()
	}
	if !slices.Equal(l[:cap(l)], spare([]api.Region{{From: 3, Size: 70}, {From: 200, Size: 9}}, api.Region{From: -7, Size: -7})[:cap(l)]) {
		t.Errorf("New: what was handed in changed: %v", l[:cap(l)])
	}
	fill(l, api.Region{From: 1, Size: 1})
	wantHeap(t, "New", y, api.OK, want, api.OK)
	wantApart(t, "New", y)
}
