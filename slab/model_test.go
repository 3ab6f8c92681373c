package slab_test

import (
	"fmt"
	"maps"
	"math"
	"slices"
	"strings"
	"testing"

	"paddock/api"
	"paddock/pages"
	"paddock/slab"
)

// strange numbers: far outside of all bounds, and so that sums, differences and products of them wrap round.
var strange = []int{math.MinInt, math.MinInt + 1, math.MinInt + 16, -1 << 60, -1 << 32, -64, -16, 1 << 32, 1<<32 + 16, 1 << 60, math.MaxInt - 255, math.MaxInt - 15, math.MaxInt - 1, math.MaxInt}

// die: numbers that look drawn, the same each time.
type die uint64

func (d *die) n(most int) int {
	*d = *d*6364136223846793005 + 1442695040888963407
	return int(uint64(*d>>33) % uint64(most))
}

// shuffled numbers from 0 to below n.
func (d *die) shuffled(n int) []int {
	l := make([]int, n)
	for i := range l {
		k := d.n(i + 1)
		l[i], l[k] = l[k], i
	}
	return l
}

// orderOf slabs with objects of a size: four of up to 4 words are in a page, of up to 8 in two.
func orderOf(size int) int {
	switch {
	case size <= 4:
		return 0
	case size <= 8:
		return 1
	}
	return 2
}

// perSlab: how many objects of a size are in one.
func perSlab(size int) int {
	n := 0
	for (n+1)*size <= []int{16, 32, 64}[orderOf(size)] {
		n++
	}
	return n
}

// clone: the same, in memory of its own.
func clone(s api.System) api.System {
	x := s
	x.Words, x.Caches, x.Heap = slices.Clone(s.Words), slices.Clone(s.Caches), pages.Copy(s.Heap)
	for i, c := range x.Caches {
		x.Caches[i].Names, x.Caches[i].Slabs, x.Caches[i].Active = slices.Clone(c.Names), slices.Clone(c.Slabs), slices.Clone(c.Active)
	}
	return x
}

// changed: a copy, in which something is otherwise.
func changed(s api.System, how func(s *api.System)) api.System {
	x := clone(s)
	how(&x)
	return x
}

func sameZone(a, b api.Zone) bool {
	return a.From == b.From && a.To == b.To && slices.Equal(a.Free, b.Free) && slices.Equal(a.Types, b.Types)
}

func sameList(a, b api.List) bool {
	return a.Cpu == b.Cpu && a.Zone == b.Zone && a.Type == b.Type && slices.Equal(a.Pages, b.Pages)
}

func sameHeap(a, b api.Heap) bool {
	return slices.EqualFunc(a.Zones, b.Zones, sameZone) && slices.Equal(a.Mins, b.Mins) && a.Cpus == b.Cpus &&
		slices.EqualFunc(a.Lists, b.Lists, sameList) && slices.Equal(a.Live, b.Live)
}

func sameCache(a, b api.Cache) bool {
	return slices.Equal(a.Names, b.Names) && a.Size == b.Size && a.Per == b.Per && a.Order == b.Order &&
		slices.Equal(a.Slabs, b.Slabs) && slices.Equal(a.Active, b.Active)
}

// same: are they? A list without elements may be nil or not.
func same(a, b api.System) bool {
	return slices.Equal(a.Words, b.Words) && sameHeap(a.Heap, b.Heap) && slices.EqualFunc(a.Caches, b.Caches, sameCache)
}

// unlike: what of an answer is not as it should be, as a text.
func unlike(got, want api.System) string {
	var l []string
	if len(got.Words) != len(want.Words) {
		l = append(l, fmt.Sprintf("%d words, want %d", len(got.Words), len(want.Words)))
	}
	for i := range min(len(got.Words), len(want.Words)) {
		if got.Words[i] != want.Words[i] && len(l) < 5 {
			l = append(l, fmt.Sprintf("word %d is %d, want %d", i, got.Words[i], want.Words[i]))
		}
	}
	if !sameHeap(got.Heap, want.Heap) {
		l = append(l, fmt.Sprint("heap ", got.Heap, ", want ", want.Heap))
	}
	if !slices.EqualFunc(got.Caches, want.Caches, sameCache) {
		l = append(l, fmt.Sprint("caches ", got.Caches, ", want ", want.Caches))
	}
	return strings.Join(l, "; ")
}

// tell a system without its words.
func tell(s api.System) string { return fmt.Sprint(s.Heap, s.Caches) }

// wantSystem: an answer as it should be.
func wantSystem(t *testing.T, what string, got api.System, e api.Errno, want api.System, f api.Errno) {
	t.Helper()
	if e != f || !same(got, want) {
		t.Errorf("%s: %d, want %d; %s", what, int(e), int(f), unlike(got, want))
	}
}

func wantMayBe(t *testing.T, what string, s api.System) {
	t.Helper()
	if e := slab.Check(s); e != api.OK {
		t.Errorf("%s: what came out may not be: %s", what, tell(s))
	}
}

func wantCreate(t *testing.T, s api.System, n string, size, align int, want api.System, f api.Errno) {
	t.Helper()
	x, e := slab.Create(s, n, size, align)
	wantSystem(t, fmt.Sprintf("Create %q %d %d in %s", n, size, align, tell(s)), x, e, want, f)
}

func wantAlloc(t *testing.T, s api.System, n string, cpu int, want api.System, at int, f api.Errno) {
	t.Helper()
	x, got, e := slab.Alloc(s, n, cpu)
	what := fmt.Sprintf("Alloc %q %d in %s", n, cpu, tell(s))
	wantSystem(t, what, x, e, want, f)
	if got != at {
		t.Errorf("%s: at %d, want %d", what, got, at)
	}
}

func wantBulk(t *testing.T, s api.System, n string, cpu, many int, want api.System, l []int, f api.Errno) {
	t.Helper()
	x, got, e := slab.Bulk(s, n, cpu, many)
	what := fmt.Sprintf("Bulk %q %d %d in %s", n, cpu, many, tell(s))
	wantSystem(t, what, x, e, want, f)
	if !slices.Equal(got, l) {
		t.Errorf("%s: %v, want %v", what, got, l)
	}
}

func wantFind(t *testing.T, s api.System, addr, i, k int, f api.Errno) {
	t.Helper()
	if a, b, e := slab.Find(s, addr); a != i || b != k || e != f {
		t.Errorf("Find %d in %s: %d, %d, %d; want %d, %d, %d", addr, tell(s), a, b, int(e), i, k, int(f))
	}
}

func wantFree(t *testing.T, s api.System, n string, cpu, addr int, want api.System, f api.Errno) {
	t.Helper()
	x, e := slab.Free(s, n, cpu, addr)
	wantSystem(t, fmt.Sprintf("Free %q %d %d in %s", n, cpu, addr, tell(s)), x, e, want, f)
}

func wantShrink(t *testing.T, s api.System, n string, want api.System, f api.Errno) {
	t.Helper()
	x, e := slab.Shrink(s, n)
	wantSystem(t, fmt.Sprintf("Shrink %q in %s", n, tell(s)), x, e, want, f)
}

func wantDestroy(t *testing.T, s api.System, n string, want api.System, f api.Errno) {
	t.Helper()
	x, e := slab.Destroy(s, n)
	wantSystem(t, fmt.Sprintf("Destroy %q in %s", n, tell(s)), x, e, want, f)
}

// pen: a cache as it should be: of each slab the addresses of its chain, by its page.
type pen struct {
	names  map[string]bool
	size   int
	slabs  map[int][]int
	active []int
}

// model: what a system should do, on top of what a heap does.
type model struct {
	words []int
	heap  api.Heap
	pens  []*pen
}

func modelOf(s api.System) *model {
	s = clone(s)
	m := &model{words: s.Words, heap: s.Heap}
	for _, c := range s.Caches {
		p := &pen{names: map[string]bool{}, size: c.Size, slabs: map[int][]int{}, active: c.Active}
		for _, n := range c.Names {
			p.names[n] = true
		}
		for _, b := range c.Slabs {
			p.slabs[b.At] = nil
			for a := b.First; a != -1; a = s.Words[a] {
				p.slabs[b.At] = append(p.slabs[b.At], a)
			}
		}
		m.pens = append(m.pens, p)
	}
	return m
}

// pages at which slabs begin.
func (p *pen) pages() []int { return slices.Sorted(maps.Keys(p.slabs)) }

func (m *model) system() api.System {
	s := api.System{Words: m.words, Heap: m.heap}
	for _, p := range m.pens {
		c := api.Cache{Names: slices.Sorted(maps.Keys(p.names)), Size: p.size, Per: perSlab(p.size), Order: orderOf(p.size), Active: p.active}
		for _, at := range p.pages() {
			b := api.Slab{At: at, First: -1, Free: len(p.slabs[at])}
			if b.Free > 0 {
				b.First = p.slabs[at][0]
			}
			c.Slabs = append(c.Slabs, b)
		}
		s.Caches = append(s.Caches, c)
	}
	return s
}

// answered: the system that should come out.
func (m *model) answered(e api.Errno) api.System {
	if e != api.OK {
		return api.System{}
	}
	return m.system()
}

// named: the place of a cache, for a processor of those that there are.
func (m *model) named(n string, cpu int) (int, api.Errno) {
	for i, p := range m.pens {
		if p.names[n] {
			if cpu < 0 || cpu > m.heap.Cpus-1 {
				return 0, api.ErrRange
			}
			return i, api.OK
		}
	}
	return 0, api.ErrNone
}

func isName(n string) bool {
	rest := strings.Trim(n, "abcdefghijklmnopqrstuvwxyz0123456789")
	return rest == "" && len(n) > 0 && len(n) < 9
}

func (m *model) create(n string, size, align int) api.Errno {
	if !isName(n) || !slices.Contains([]int{1, 2, 4, 8}, align) {
		return api.ErrForm
	}
	if size <= 0 || size > 64 {
		return api.ErrRange
	}
	if _, e := m.named(n, 0); e == api.OK {
		return api.ErrTwice
	}
	for size%align != 0 {
		size++
	}
	for _, p := range m.pens {
		if p.size == size {
			p.names[n] = true
			return api.OK
		}
	}
	if len(m.pens) > 19 {
		return api.ErrSize
	}
	m.pens = append(m.pens, &pen{names: map[string]bool{n: true}, size: size, slabs: map[int][]int{}, active: slices.Repeat([]int{-1}, m.heap.Cpus)})
	return api.OK
}

// slabFor a processor; it is made, if need be.
func (m *model) slabFor(p *pen, cpu int) (int, api.Errno) {
	if own := p.active[cpu]; own >= 0 && len(p.slabs[own]) > 0 {
		return own, api.OK
	}
	for _, at := range p.pages() {
		if len(p.slabs[at]) > 0 && !slices.Contains(p.active, at) {
			return at, api.OK
		}
	}
	h, at, e := pages.Alloc(m.heap, cpu, orderOf(p.size), 0)
	if e != api.OK {
		return 0, e
	}
	m.heap = h
	for i := range perSlab(p.size) {
		p.slabs[at] = append(p.slabs[at], at*16+i*p.size)
	}
	for i, a := range p.slabs[at] {
		m.words[a] = -1
		if i > 0 {
			m.words[a-p.size] = a
		}
	}
	return at, api.OK
}

func (m *model) alloc(n string, cpu int) (int, api.Errno) {
	i, e := m.named(n, cpu)
	if e != api.OK {
		return 0, e
	}
	p := m.pens[i]
	at, e := m.slabFor(p, cpu)
	if e != api.OK {
		return 0, e
	}
	first := p.slabs[at][0]
	p.slabs[at] = p.slabs[at][1:]
	p.active[cpu] = at
	return first, api.OK
}

func (m *model) bulk(n string, cpu, many int) ([]int, api.Errno) {
	if _, e := m.named(n, cpu); e != api.OK {
		return nil, e
	}
	if many <= 0 || many > 256 {
		return nil, api.ErrRange
	}
	var l []int
	for range many {
		at, e := m.alloc(n, cpu)
		if e != api.OK {
			return nil, e
		}
		l = append(l, at)
	}
	return l, api.OK
}

// find a cache's place, that of a slab among its own, and its page.
func (m *model) find(addr int) (int, int, int, api.Errno) {
	for i, p := range m.pens {
		for k, at := range p.pages() {
			for o := range perSlab(p.size) {
				if addr == at*16+o*p.size && !slices.Contains(p.slabs[at], addr) {
					return i, k, at, api.OK
				}
			}
		}
	}
	return 0, 0, 0, api.ErrNone
}

// spare slabs: all objects are free, and nobody takes from them.
func (p *pen) spare() []int {
	return slices.DeleteFunc(p.pages(), func(at int) bool {
		return len(p.slabs[at]) != perSlab(p.size) || slices.Contains(p.active, at)
	})
}

func (m *model) free(n string, cpu, addr int) api.Errno {
	i, e := m.named(n, cpu)
	if e != api.OK {
		return e
	}
	k, _, at, e := m.find(addr)
	if e != api.OK || k != i {
		return api.ErrNone
	}
	p := m.pens[i]
	m.words[addr] = append(slices.Clone(p.slabs[at]), -1)[0]
	p.slabs[at] = append([]int{addr}, p.slabs[at]...)
	if l := p.spare(); slices.Contains(l, at) && len(l) >= 2 {
		m.heap, _ = pages.Free(m.heap, cpu, at)
		delete(p.slabs, at)
	}
	return api.OK
}

func (m *model) shrink(n string) api.Errno {
	i, e := m.named(n, 0)
	if e != api.OK {
		return e
	}
	p := m.pens[i]
	p.active = slices.Repeat([]int{-1}, m.heap.Cpus)
	for _, at := range slices.Backward(p.spare()) {
		m.heap, _ = pages.Free(m.heap, 0, at)
		delete(p.slabs, at)
	}
	return api.OK
}

func (m *model) destroy(n string) api.Errno {
	i, e := m.named(n, 0)
	if e != api.OK {
		return e
	}
	p := m.pens[i]
	if len(p.names) > 1 {
		delete(p.names, n)
		return api.OK
	}
	for _, chain := range p.slabs {
		if len(chain) < perSlab(p.size) {
			return api.ErrBusy
		}
	}
	m.shrink(n)
	m.pens = append(m.pens[:i:i], m.pens[i+1:]...)
	return api.OK
}

// freeBlocks of pages, each the greatest one that it could be.
func freeBlocks(in *[api.MaxPages]bool) []api.Block {
	whole := func(at, order int) bool {
		for i := range 1 << order {
			if at%(1<<order) != 0 || !in[at+i] {
				return false
			}
		}
		return true
	}
	var l []api.Block
	for p := 0; p < api.MaxPages; {
		o := api.MaxOrder
		for o >= 0 && !whole(p, o) {
			o--
		}
		if o >= 0 {
			l = append(l, api.Block{At: p, Order: o, Type: api.Movable})
		}
		p += 1 << max(o, 0)
	}
	return l
}

// drawn caches with unlike sizes and names, without slabs.
func (d *die) caches(cpus int) []api.Cache {
	var l []api.Cache
	sizes, names := d.shuffled(64), d.shuffled(100)
	for i := range 1 + d.n(6) {
		c := api.Cache{Size: 1 + sizes[i], Active: slices.Repeat([]int{-1}, cpus)}
		if d.n(2) == 0 {
			c.Size = i + 1 // small ones, whose slabs are single pages
		}
		if slices.ContainsFunc(l, func(x api.Cache) bool { return x.Size == c.Size }) {
			continue
		}
		c.Order, c.Per = orderOf(c.Size), perSlab(c.Size)
		for range 1 + d.n(3) {
			c.Names = append(c.Names, fmt.Sprint("n", names[0]))
			names = names[1:]
		}
		slices.Sort(c.Names)
		l = append(l, c)
	}
	return l
}

// drawn slab at a page: a chain of some of its objects, in any order, through words that are given.
func (d *die) slab(words []int, c api.Cache, page int) api.Slab {
	l := d.shuffled(c.Per)
	if d.n(3) > 0 {
		l = l[:d.n(c.Per+1)]
	}
	b := api.Slab{At: page, Free: len(l), First: -1}
	for _, o := range l {
		at := page*16 + o*c.Size
		words[at], b.First = b.First, at
	}
	return b
}

// drawn system that may be: each page is in some place or in none.
func (d *die) system() api.System {
	h, _ := pages.New(nil, 16*d.n(17), 0, 1+d.n(4))
	h.Mins = []int{d.n(1 + d.n(9)), d.n(1 + d.n(9))}
	s := api.System{Words: make([]int, 4096), Caches: d.caches(h.Cpus)}
	for i := range s.Words {
		s.Words[i] = d.n(5000) - 500 // some of them look like addresses
	}
	var in [api.MaxPages]bool
	var kept []int
	crowd := 4 + d.n(12)
	for p := 0; p < api.MaxPages; {
		o := d.n(5)
		c := &s.Caches[d.n(len(s.Caches))]
		use := d.n(crowd)
		if use < 3 {
			o = c.Order
		}
		for p%(1<<o) != 0 {
			o--
		}
		switch {
		case use < 3 && o == c.Order:
			h.Live = append(h.Live, api.Block{At: p, Order: o, Type: d.n(3)})
			c.Slabs = append(c.Slabs, d.slab(s.Words, *c, p))
		case use == 3:
			h.Live = append(h.Live, api.Block{At: p, Order: o, Type: d.n(3)})
		case use == 4:
			for i := range 1 << o {
				in[p+i] = true
			}
		case use == 5 && o == 0 && p >= h.Zones[1].From && len(kept) < 8:
			kept = append(kept, p)
		}
		p += 1 << o
	}
	for _, b := range freeBlocks(&in) {
		z := &h.Zones[0]
		if b.At >= z.To {
			z = &h.Zones[1]
		}
		z.Free = append(z.Free, b)
	}
	if len(kept) > 0 {
		h.Lists = []api.List{{Cpu: d.n(h.Cpus), Zone: 1, Type: d.n(3), Pages: kept}}
	}
	for _, c := range s.Caches {
		for cpu, k := range d.shuffled(max(len(c.Slabs), h.Cpus))[:h.Cpus] {
			if k < len(c.Slabs) && d.n(2) == 0 {
				c.Active[cpu] = c.Slabs[k].At
			}
		}
	}
	s.Heap = h
	return s
}

// name of a cache, or, seldom, one that no cache has.
func (d *die) name(s api.System) string {
	if i := d.n(10 * (len(s.Caches) + 1)); i < 10*len(s.Caches) {
		l := s.Caches[i%len(s.Caches)].Names
		return l[d.n(len(l))]
	}
	return "nobody"
}
