package buddy_test

import (
	"fmt"
	"math"
	"slices"
	"testing"

	"paddock/api"
	"paddock/buddy"
)

// strange numbers: far outside of all bounds, and so that sums, differences and shifts of them wrap round.
var strange = []int{math.MinInt, math.MinInt + 1, math.MinInt + 16, -1 << 32, -64, -16, 1 << 32, 1<<32 + 16, math.MaxInt - 255, math.MaxInt - 15, math.MaxInt - 1, math.MaxInt}

// die: numbers that look drawn, the same each time.
type die uint64

func (d *die) n(most int) int {
	*d = *d*6364136223846793005 + 1442695040888963407
	return int(uint64(*d>>33) % uint64(most))
}

// free blocks: the place, the order and the type of each.
func free(l ...int) []api.Block {
	var out []api.Block
	for i := 0; i < len(l); i += 3 {
		out = append(out, api.Block{At: l[i], Order: l[i+1], Type: l[i+2]})
	}
	return out
}

// zone of so many pages from one on, whose groups are all of a type.
func zone(from, size, t int, l ...int) api.Zone {
	return api.Zone{From: from, To: from + size, Free: free(l...), Types: slices.Repeat([]int{t}, size/8)}
}

// sameZone: are they the same? A list without elements may be nil or not.
func sameZone(a, b api.Zone) bool {
	return a.From == b.From && a.To == b.To && slices.Equal(a.Free, b.Free) && slices.Equal(a.Types, b.Types)
}

// wantZone: an answer as it should be.
func wantZone(t *testing.T, what string, got api.Zone, e api.Errno, want api.Zone, f api.Errno) {
	t.Helper()
	if e != f || !sameZone(got, want) {
		t.Errorf("%s: %v, %d; want %v, %d", what, got, int(e), want, int(f))
	}
}

// wantTake: is a call of Take answered as it should be?
func wantTake(t *testing.T, z api.Zone, order, kind int, want api.Zone, at int, f api.Errno) {
	t.Helper()
	x, got, e := buddy.Take(z, order, kind)
	if got != at || e != f || !sameZone(x, want) {
		t.Errorf("Take %v %d %d: %v, %d, %d; want %v, %d, %d", z, order, kind, x, got, int(e), want, at, int(f))
	}
}

// marks: of each page the type of the free block that it is in; -1: it is not free.
type marks [api.MaxPages]int

// mark the pages of blocks; false: one is outside of all pages, or marked already.
func mark(l []api.Block) (marks, bool) {
	var m marks
	for p := range m {
		m[p] = -1
	}
	for _, b := range l {
		for p := b.At; p < b.At+1<<b.Order; p++ {
			if p < 0 || p >= api.MaxPages || m[p] >= 0 {
				return m, false
			}
			m[p] = b.Type
		}
	}
	return m, true
}

// blocks of the pages that are marked. There is just one way to make them: each is the greatest one that it could be.
func (m *marks) blocks() []api.Block {
	var l []api.Block
	for p := 0; p < api.MaxPages; {
		o := api.MaxOrder
		for o >= 0 && !m.all(p, o) {
			o--
		}
		if o < 0 {
			p++
			continue
		}
		l = append(l, api.Block{At: p, Order: o, Type: m[p]})
		p += 1 << o
	}
	return l
}

// all: is it a block, and are all its pages marked?
func (m *marks) all(at, order int) bool {
	if at%(1<<order) != 0 {
		return false
	}
	for i := range 1 << order {
		if m[at+i] < 0 {
			return false
		}
	}
	return true
}

// backed: what Back should answer, if it is not refused ahead of its work.
func backed(z api.Zone, at, order int) (api.Zone, api.Errno) {
	m, _ := mark(z.Free)
	for p := at; p < at+1<<order; p++ {
		if m[p] >= 0 {
			return api.Zone{}, api.ErrTwice
		}
		m[p] = 0
	}
	l := m.blocks()
	for i, b := range l {
		if b.At <= at && at < b.At+1<<b.Order {
			l[i].Type = z.Types[(b.At-z.From)/8]
		}
	}
	return api.Zone{From: z.From, To: z.To, Free: l, Types: z.Types}, api.OK
}

// tries: which orders and types Take looks for, in turn, as P3.7 tells it.
func tries(order, t int) [][2]int {
	others := map[int][]int{api.Fixed: {api.Reclaim, api.Movable}, api.Movable: {api.Reclaim, api.Fixed}, api.Reclaim: {api.Fixed, api.Movable}}
	var own, other [][2]int
	for o := order; o <= 4; o++ {
		own = append(own, [2]int{o, t})
		other = append(other, [2]int{4 + order - o, others[t][0]}, [2]int{4 + order - o, others[t][1]})
	}
	return append(own, other...)
}

// found: the free block that Take should find.
func found(z api.Zone, order, t int) (api.Block, bool) {
	for _, try := range tries(order, t) {
		for _, b := range z.Free {
			if b.Order == try[0] && b.Type == try[1] {
				return b, true
			}
		}
	}
	return api.Block{}, false
}

// taken: what Take should answer, if it is not refused ahead of its work.
func taken(z api.Zone, order, t int) (api.Zone, int, api.Errno) {
	b, ok := found(z, order, t)
	if !ok {
		return api.Zone{}, 0, api.ErrRoom
	}
	m, _ := mark(z.Free)
	types := slices.Clone(z.Types)
	if b.Type != t && b.Order >= 2 {
		for p := b.At / 8 * 8; p < b.At+1<<b.Order || p%8 != 0; p++ {
			types[(p-z.From)/8] = t
			if m[p] >= 0 {
				m[p] = t
			}
		}
	}
	for i := range 1 << order {
		m[b.At+i] = -1
	}
	return api.Zone{From: z.From, To: z.To, Free: m.blocks(), Types: types}, b.At, api.OK
}

// drawn zone that may be; the types of its free blocks and of its groups have nothing to do with each other.
func (d *die) zone() api.Zone {
	from := 16 * d.n(14)
	z := zone(from, 16*(1+d.n(min(4, 16-from/16))), 0)
	for i := range z.Types {
		z.Types[i] = d.n(3)
	}
	m, _ := mark(nil)
	for range d.n(20) {
		o := d.n(5)
		at := (z.From + d.n(z.To-z.From)) >> o << o
		in := d.n(4) - 1
		for i := range 1 << o {
			m[at+i] = min(in, 0)
		}
	}
	z.Free = m.blocks()
	for i := range z.Free {
		z.Free[i].Type = d.n(3)
	}
	return z
}

// P3.1: all bounds near those that may be, and in between.
func TestNew(t *testing.T) {
	for from := -33; from <= api.MaxPages+33; from++ {
		for to := -33; to <= api.MaxPages+33; to++ {
			want, f := api.Zone{}, api.ErrRange
			if from >= 0 && from <= to && to <= 256 && from%16 == 0 && to%16 == 0 {
				want, f = zone(from, to-from, api.Movable), api.OK
			}
			x, e := buddy.New(from, to)
			wantZone(t, fmt.Sprint("New ", from, to), x, e, want, f)
			if e == api.OK && buddy.Check(x) != api.OK {
				t.Errorf("New %d %d: %v may not be", from, to, x)
			}
		}
	}
}

// P3.1: strange bounds.
func TestNewStrange(t *testing.T) {
	for _, n := range strange {
		for _, m := range append([]int{0, 16, api.MaxPages}, strange...) {
			for _, b := range [][2]int{{n, m}, {m, n}} {
				x, e := buddy.New(b[0], b[1])
				wantZone(t, fmt.Sprint("New ", b), x, e, api.Zone{}, api.ErrRange)
			}
		}
	}
}

// wrongBounds: zones that may not be for their bounds or their types alone.
func wrongBounds() []api.Zone {
	one := []int{1, 1}
	l := []api.Zone{
		{From: 0, To: 8, Types: []int{1}},
		{From: 8, To: 24, Types: one},
		{From: 8, To: 16, Types: []int{1}},
		{From: 1, To: 17, Types: one},
		{From: -16, To: 0, Types: one},
		{From: 32, To: 16, Types: nil},
		{From: 32, To: 16, Types: one},
		{From: 240, To: 272, Types: []int{1, 1, 1, 1}},
		{From: 256, To: 272, Types: one},
		{From: 272, To: 272},
		{From: -16, To: -16},
		{From: 16, To: 16, Types: []int{1}},
		{From: 0, To: 16, Types: nil},
		{From: 0, To: 16, Types: []int{1}},
		{From: 0, To: 16, Types: []int{1, 1, 1}},
		{From: 0, To: 16, Types: make([]int, 1<<16)},
		{From: 0, To: 16, Types: []int{-1, 1}},
		{From: 0, To: 16, Types: []int{3, 1}},
		{From: 0, To: 16, Types: []int{1, -1}},
		{From: 0, To: 16, Types: []int{1, 3}},
		{From: 0, To: 16, Types: []int{0, 0, 0, 3}},
		{From: 0, To: 64, Types: []int{0, 1, 2, 0, 1, 2, 0, 3}},
	}
	for _, n := range strange {
		l = append(l, api.Zone{From: n, To: 16, Types: one}, api.Zone{From: n, To: n}, api.Zone{From: 16, To: n, Types: one}, api.Zone{From: n, To: n + 16, Types: one}, api.Zone{From: 0, To: 16, Types: []int{1, n}})
	}
	return l
}

// wrongFree: zones from 16 to below 48 that may not be for their free blocks alone.
func wrongFree() []api.Zone {
	lists := [][]api.Block{
		free(16, -1, 1),
		free(16, 5, 1),
		free(15, 0, 1),
		free(0, 4, 1),
		free(48, 0, 1),
		free(48, 4, 1),
		free(17, 1, 1),
		free(18, 2, 1),
		free(20, 3, 1),
		free(24, 4, 1),
		free(16, 0, -1),
		free(16, 0, 3),
		free(16, 0, 1, 16, 0, 1),           // the same twice
		free(16, 2, 1, 18, 0, 1),           // a page in common
		free(16, 1, 1, 16, 0, 1),           // the same place
		free(16, 0, 1, 16, 1, 1),           // and the other way round
		free(19, 0, 1, 16, 0, 1),           // falling
		free(32, 4, 1, 16, 4, 1),           // falling
		free(16, 4, 1, 31, 0, 1),           // within the other one
		free(20, 0, 1, 16, 3, 1),           // falling, within the other one
		free(16, 0, 1, 17, 0, 1),           // beside each other
		free(16, 0, 1, 17, 0, 2),           // of unlike types, too
		free(17, 0, 1, 16, 0, 1),           // falling, too
		free(18, 1, 1, 16, 1, 1),           // falling, too
		free(20, 1, 1, 22, 1, 1),           // beside each other
		free(24, 2, 1, 28, 2, 1),           // beside each other
		free(16, 3, 0, 24, 3, 1),           // beside each other
		free(16, 0, 1, 40, 2, 1, 44, 2, 1), // the last two alone
		free(16, 0, 1, 18, 1, 1, 32, 0, 1, 33, 0, 0, 40, 3, 1),
		make([]api.Block, 1<<16),
		slices.Repeat(free(16, 0, 1), 1<<16),
	}
	for _, n := range strange {
		lists = append(lists, free(n, 0, 1), free(16, n, 1), free(16, 0, n), free(n, n, n), free(16, 0, 0, n, 0, 0), free(n, 4, 0, 32, 0, 0))
	}
	var l []api.Zone
	for _, f := range lists {
		l = append(l, api.Zone{From: 16, To: 48, Free: f, Types: []int{1, 0, 2, 1}})
	}
	return l
}

// P3.3: zones that may be.
func TestCheckMayBe(t *testing.T) {
	for _, z := range []api.Zone{
		{},
		{Free: []api.Block{}, Types: []int{}},
		{From: 256, To: 256},
		{From: 16, To: 16},
		zone(0, 16, 0),
		zone(0, 256, 2),
		zone(240, 16, 1, 240, 4, 0),
		zone(16, 32, 1, 16, 4, 1, 32, 4, 1), // of the greatest order none are beside each other
		zone(16, 32, 1, 17, 0, 1, 18, 0, 1), // not the halves of one
		zone(16, 32, 1, 18, 1, 1, 20, 1, 1),
		zone(16, 32, 1, 20, 2, 1, 24, 2, 1),
		zone(16, 32, 1, 24, 3, 1, 32, 3, 1),
		zone(16, 32, 1, 16, 0, 1, 18, 1, 2, 20, 2, 0, 24, 3, 1),
		zone(16, 32, 1, 16, 0, 1, 19, 0, 1, 31, 0, 1, 47, 0, 1),
		zone(16, 32, 1, 47, 0, 0),
	} {
		if e := buddy.Check(z); e != api.OK {
			t.Errorf("Check %v: %d, want OK", z, int(e))
		}
	}
}

// P3.3: zones that may not be.
func TestCheckWrong(t *testing.T) {
	for _, z := range append(wrongBounds(), wrongFree()...) {
		if e := buddy.Check(z); e != api.ErrState {
			t.Errorf("Check of a zone from %d to %d, %d free, %d types: %d, want ErrState", z.From, z.To, len(z.Free), len(z.Types), int(e))
		}
	}
}

// mayBe: are these the greatest blocks that there could be, in the zone?
func mayBe(z api.Zone) bool {
	for _, b := range z.Free {
		if b.Order < 0 || b.Order > 4 || b.At < z.From || b.At+1<<b.Order > z.To || b.Type < 0 || b.Type > 2 {
			return false
		}
	}
	m, ok := mark(z.Free)
	if !ok {
		return false
	}
	l := m.blocks()
	for i := range l {
		if i < len(z.Free) {
			l[i].Type = z.Free[i].Type
		}
	}
	return slices.Equal(l, z.Free)
}

// P3.2, P3.3: all pairs of blocks in and about a zone, in both orders.
func TestCheckPairs(t *testing.T) {
	var all []api.Block
	for at := 14; at < 50; at++ {
		for o := -1; o < 6; o++ {
			all = append(all, api.Block{At: at, Order: o, Type: (at + o) % 3})
		}
	}
	for _, a := range all {
		for _, b := range all {
			for _, l := range [][]api.Block{{a}, {a, b}} {
				z := zone(16, 32, 1)
				z.Free = l
				want := api.ErrState
				if mayBe(z) {
					want = api.OK
				}
				if e := buddy.Check(z); e != want {
					t.Errorf("Check %v: %d, want %d", z, int(e), int(want))
				}
			}
		}
	}
}

// P3.3: drawn zones that may be, and the same with a number changed.
func TestCheckDrawn(t *testing.T) {
	d := die(33)
	for range 3000 {
		z := d.zone()
		if e := buddy.Check(z); e != api.OK {
			t.Errorf("Check %v: %d, want OK", z, int(e))
		}
		if len(z.Free) == 0 {
			continue
		}
		b := &z.Free[d.n(len(z.Free))]
		*[]*int{&b.At, &b.Order, &b.Type}[d.n(3)] += 1 - 2*d.n(2)
		want := api.ErrState
		if mayBe(z) {
			want = api.OK
		}
		if e := buddy.Check(z); e != want {
			t.Errorf("Check %v: %d, want %d", z, int(e), int(want))
		}
	}
}

// P3.3: Copy tells the same zone, also one that may not be.
func TestCopy(t *testing.T) {
	l := append(wrongBounds(), wrongFree()...)
	d := die(34)
	for range 100 {
		l = append(l, d.zone())
	}
	for _, z := range l {
		if x := buddy.Copy(z); !sameZone(x, z) {
			t.Errorf("Copy of a zone from %d to %d is another one, from %d to %d", z.From, z.To, x.From, x.To)
		}
	}
}

// P3.3: all others refuse what Check refuses, whatever else is wrong.
func TestCheckFirst(t *testing.T) {
	for _, z := range append(wrongBounds(), wrongFree()...) {
		for _, n := range []int{0, 16, 20, -1, 300} {
			for _, m := range []int{0, 1, 4, 5, -1} {
				x, e := buddy.Back(z, n, m)
				wantZone(t, "Back", x, e, api.Zone{}, api.ErrState)
				x, e = buddy.Give(z, n, m)
				wantZone(t, "Give", x, e, api.Zone{}, api.ErrState)
				x, at, e := buddy.Take(z, m, n)
				wantZone(t, "Take", x, e, api.Zone{}, api.ErrState)
				if at != 0 {
					t.Errorf("Take: %d with an error", at)
				}
			}
			if k, e := buddy.TypeAt(z, n); k != 0 || e != api.ErrState {
				t.Errorf("TypeAt %d: %d, %d; want ErrState", n, k, int(e))
			}
		}
		if n, e := buddy.Pages(z); n != 0 || e != api.ErrState {
			t.Errorf("Pages: %d, %d; want ErrState", n, int(e))
		}
		if _, at, e := buddy.Take(z, 0, 1); at != 0 || e != api.ErrState {
			t.Errorf("Take: %d, %d; want ErrState", at, int(e))
		}
	}
}

// P3.4: how many pages are free.
func TestPages(t *testing.T) {
	full := zone(0, 256, 1)
	for at := 0; at < 256; at += 16 {
		full.Free = append(full.Free, api.Block{At: at, Order: 4, Type: at % 3})
	}
	for _, c := range []struct {
		z    api.Zone
		want int
	}{
		{api.Zone{}, 0},
		{zone(16, 32, 1), 0},
		{zone(16, 32, 1, 47, 0, 0), 1},
		{zone(16, 32, 1, 16, 0, 1, 18, 1, 2, 20, 2, 0, 24, 3, 1, 32, 4, 1), 31},
		{full, 256},
	} {
		if n, e := buddy.Pages(c.z); n != c.want || e != api.OK {
			t.Errorf("Pages %v: %d, %d; want %d", c.z, n, int(e), c.want)
		}
	}
	d := die(35)
	for range 500 {
		z := d.zone()
		want := 0
		m, _ := mark(z.Free)
		for _, in := range m {
			if in >= 0 {
				want++
			}
		}
		if n, e := buddy.Pages(z); n != want || e != api.OK {
			t.Errorf("Pages %v: %d, %d; want %d", z, n, int(e), want)
		}
	}
}

// P3.4: the type of each page's group, whatever is free in it; pages outside, too.
func TestTypeAt(t *testing.T) {
	d := die(36)
	for range 200 {
		z := d.zone()
		for at := -20; at < 280; at++ {
			want, f := 0, api.ErrRange
			if at >= z.From && at < z.To {
				want, f = z.Types[(at-z.From)/8], api.OK
			}
			if k, e := buddy.TypeAt(z, at); k != want || e != f {
				t.Errorf("TypeAt %v %d: %d, %d; want %d, %d", z, at, k, int(e), want, int(f))
			}
		}
		for _, at := range strange {
			if k, e := buddy.TypeAt(z, at); k != 0 || e != api.ErrRange {
				t.Errorf("TypeAt %v %d: %d, %d; want ErrRange", z, at, k, int(e))
			}
		}
	}
	if k, e := buddy.TypeAt(api.Zone{}, 0); k != 0 || e != api.ErrRange {
		t.Errorf("TypeAt without pages: %d, %d; want ErrRange", k, int(e))
	}
}

// P3.5: what is put together, and of which type it is.
func TestBack(t *testing.T) {
	mixed := func(l ...int) api.Zone {
		return api.Zone{From: 16, To: 48, Free: free(l...), Types: []int{2, 0, 1, 1}}
	}
	for _, c := range []struct {
		z         api.Zone
		at, order int
		want      api.Zone
	}{
		{mixed(), 16, 0, mixed(16, 0, 2)},
		{mixed(), 47, 0, mixed(47, 0, 1)},
		{mixed(), 24, 3, mixed(24, 3, 0)},
		{mixed(), 16, 4, mixed(16, 4, 2)},                                                 // of the first one of two groups
		{mixed(17, 0, 1), 16, 0, mixed(16, 1, 2)},                                         // whatever the other one's type
		{mixed(16, 0, 1), 17, 0, mixed(16, 1, 2)},                                         // from above, too
		{mixed(17, 0, 1), 18, 0, mixed(17, 0, 1, 18, 0, 2)},                               // not the halves of one
		{mixed(18, 0, 1), 16, 1, mixed(16, 1, 2, 18, 0, 1)},                               // of unlike orders
		{mixed(18, 1, 1), 16, 0, mixed(16, 0, 2, 18, 1, 1)},                               // so, too
		{mixed(16, 3, 1), 24, 3, mixed(16, 4, 2)},                                         // of the lower one's group
		{mixed(24, 3, 1), 16, 3, mixed(16, 4, 2)},                                         // so, too
		{mixed(16, 4, 1), 32, 4, mixed(16, 4, 1, 32, 4, 1)},                               // at the greatest order no more
		{mixed(16, 0, 0, 18, 1, 1, 20, 2, 0, 24, 3, 0), 17, 0, mixed(16, 4, 2)},           // one by one, all the way
		{mixed(16, 3, 1, 24, 2, 1, 28, 1, 1, 30, 0, 1), 31, 0, mixed(16, 4, 2)},           // so from above
		{mixed(16, 0, 1, 32, 0, 0), 20, 1, mixed(16, 0, 1, 20, 1, 2, 32, 0, 0)},           // others stay as they are
		{mixed(16, 0, 1, 21, 0, 1, 32, 0, 0), 20, 0, mixed(16, 0, 1, 20, 1, 2, 32, 0, 0)}, // so, too
	} {
		x, e := buddy.Back(c.z, c.at, c.order)
		wantZone(t, fmt.Sprint("Back ", c.z, c.at, c.order), x, e, c.want, api.OK)
	}
}

// P3.5: all blocks in and about drawn zones; what comes out may be, too.
func TestBackDrawn(t *testing.T) {
	d := die(37)
	for range 300 {
		z := d.zone()
		for at := z.From - 17; at < z.To+17; at++ {
			for o := -1; o < 6; o++ {
				want, f := api.Zone{}, api.ErrRange
				if o >= 0 && o <= 4 && at >= z.From && at < z.To && at%(1<<o) == 0 {
					want, f = backed(z, at, o)
				}
				x, e := buddy.Back(z, at, o)
				wantZone(t, fmt.Sprint("Back ", z, at, o), x, e, want, f)
				if e := buddy.Check(x); e != api.OK {
					t.Errorf("Back %v %d %d: its answer %v may not be: %d", z, at, o, x, int(e))
				}
			}
		}
	}
}

// P3.5: blocks that may not be, also where a page of theirs is free; strange numbers.
func TestBackRange(t *testing.T) {
	z := zone(16, 32, 1, 16, 4, 1, 32, 3, 1)
	wrong := [][2]int{{15, 0}, {48, 0}, {0, 4}, {48, 4}, {0, 0}, {256, 0}, {17, 1}, {18, 2}, {20, 3}, {24, 4}, {16, -1}, {16, 5}, {32, 5}, {16, 64}, {32, 63}, {16, -64}, {-16, 0}, {-16, 4}}
	for _, n := range strange {
		wrong = append(wrong, [2]int{n, 0}, [2]int{n, 4}, [2]int{16, n}, [2]int{40, n}, [2]int{n, n})
	}
	for _, z := range []api.Zone{z, zone(16, 32, 1), {}} {
		for _, w := range wrong {
			x, e := buddy.Back(z, w[0], w[1])
			wantZone(t, fmt.Sprint("Back ", w), x, e, api.Zone{}, api.ErrRange)
		}
	}
}

// P3.5: one of its pages is free: the first one, the last one, all of them, or all of a greater block.
func TestBackTwice(t *testing.T) {
	for _, c := range []struct {
		z         api.Zone
		at, order int
	}{
		{zone(0, 16, 1, 3, 0, 1), 3, 0},
		{zone(0, 16, 1, 0, 0, 1), 0, 4},
		{zone(0, 16, 1, 15, 0, 1), 0, 4},
		{zone(0, 16, 1, 6, 1, 1), 4, 2},
		{zone(0, 16, 1, 0, 4, 1), 0, 4},
		{zone(0, 16, 1, 0, 4, 1), 9, 0},
		{zone(0, 16, 1, 8, 3, 1), 12, 2},
		{zone(0, 16, 1, 0, 0, 1, 2, 0, 1, 8, 3, 1), 2, 1},
	} {
		x, e := buddy.Back(c.z, c.at, c.order)
		wantZone(t, fmt.Sprint("Back ", c.z, c.at, c.order), x, e, api.Zone{}, api.ErrTwice)
	}
}

// P3.6: all places and sizes in and about drawn zones: as if each page were back.
func TestGive(t *testing.T) {
	d := die(38)
	for range 60 {
		z := d.zone()
		for from := z.From - 2; from < z.To+3; from++ {
			for size := -2; size < 36; size++ {
				want, f := z, api.OK
				if size < 0 || from < z.From || from+size > z.To {
					want, f = api.Zone{}, api.ErrRange
				}
				for p := from; p < from+size && f == api.OK; p++ {
					want, f = backed(want, p, 0)
				}
				x, e := buddy.Give(z, from, size)
				wantZone(t, fmt.Sprint("Give ", z, from, size), x, e, want, f)
			}
		}
	}
}

// P3.6: whole zones, and nothing at all.
func TestGiveEdges(t *testing.T) {
	full := zone(0, 256, 1)
	for at := 0; at < 256; at += 16 {
		full.Free = append(full.Free, api.Block{At: at, Order: 4, Type: 1})
	}
	z := zone(16, 32, 1, 20, 2, 0)
	for _, c := range []struct {
		z          api.Zone
		from, size int
		want       api.Zone
		f          api.Errno
	}{
		{zone(0, 256, 1), 0, 256, full, api.OK},
		{zone(0, 256, 1), 0, 257, api.Zone{}, api.ErrRange},
		{full, 256, 0, full, api.OK},
		{full, 0, 0, full, api.OK},
		{full, 255, 1, api.Zone{}, api.ErrTwice},
		{full, 255, 2, api.Zone{}, api.ErrRange}, // ahead of a page that is free
		{full, 0, -1, api.Zone{}, api.ErrRange},
		{z, 16, 4, zone(16, 32, 1, 16, 3, 1), api.OK},
		{z, 16, 5, api.Zone{}, api.ErrTwice}, // the last one alone
		{z, 23, 9, api.Zone{}, api.ErrTwice}, // the first one alone
		{z, 16, 0, z, api.OK},
		{z, 20, 0, z, api.OK}, // no page of it is given
		{z, 48, 0, z, api.OK}, // just behind all
		{z, 48, 1, api.Zone{}, api.ErrRange},
		{z, 49, 0, api.Zone{}, api.ErrRange},
		{z, 15, 0, api.Zone{}, api.ErrRange},
		{z, 15, 1, api.Zone{}, api.ErrRange},
		{z, 15, 2, api.Zone{}, api.ErrRange},
		{z, 20, -1, api.Zone{}, api.ErrRange},
		{z, 20, 29, api.Zone{}, api.ErrRange},
		{api.Zone{}, 0, 0, api.Zone{}, api.OK},
		{api.Zone{}, 0, 1, api.Zone{}, api.ErrRange},
		{api.Zone{}, 1, 0, api.Zone{}, api.ErrRange},
	} {
		x, e := buddy.Give(c.z, c.from, c.size)
		wantZone(t, fmt.Sprint("Give ", c.z, c.from, c.size), x, e, c.want, c.f)
	}
	for _, n := range strange {
		for _, w := range [][2]int{{n, 0}, {n, 1}, {n, n}, {16, n}, {48, n}, {n, 16 - n}, {n, 48 - n}} {
			x, e := buddy.Give(z, w[0], w[1])
			wantZone(t, fmt.Sprint("Give ", z, w), x, e, api.Zone{}, api.ErrRange)
		}
	}
}

// mixedZone: from 16 to below 80, of unlike groups.
func mixedZone(l ...int) api.Zone {
	return api.Zone{From: 16, To: 80, Free: free(l...), Types: []int{1, 1, 0, 0, 2, 2, 1, 0}}
}

// P3.7: of its own type, of that order first, then of greater ones, the lowest one of these.
func TestTakeOwn(t *testing.T) {
	z := mixedZone(16, 4, 0, 32, 1, 0, 36, 1, 0, 40, 0, 0, 42, 0, 0, 48, 3, 0, 64, 4, 1)
	wantTake(t, z, 0, 0, mixedZone(16, 4, 0, 32, 1, 0, 36, 1, 0, 42, 0, 0, 48, 3, 0, 64, 4, 1), 40, api.OK)
	wantTake(t, z, 1, 0, mixedZone(16, 4, 0, 36, 1, 0, 40, 0, 0, 42, 0, 0, 48, 3, 0, 64, 4, 1), 32, api.OK)
	wantTake(t, z, 2, 0, mixedZone(16, 4, 0, 32, 1, 0, 36, 1, 0, 40, 0, 0, 42, 0, 0, 52, 2, 0, 64, 4, 1), 48, api.OK)
	wantTake(t, z, 4, 0, mixedZone(32, 1, 0, 36, 1, 0, 40, 0, 0, 42, 0, 0, 48, 3, 0, 64, 4, 1), 16, api.OK)
	// A greater one of its own type comes ahead of one of another type that would fit.
	wantTake(t, z, 0, 1, mixedZone(16, 4, 0, 32, 1, 0, 36, 1, 0, 40, 0, 0, 42, 0, 0, 48, 3, 0, 65, 0, 1, 66, 1, 1, 68, 2, 1, 72, 3, 1), 64, api.OK)
}

// P3.8: the upper halves stay free, of the block's type; its groups are what they were.
func TestTakeHalves(t *testing.T) {
	z := mixedZone(32, 4, 2)
	wantTake(t, z, 0, 2, mixedZone(33, 0, 2, 34, 1, 2, 36, 2, 2, 40, 3, 2), 32, api.OK)
	wantTake(t, z, 1, 2, mixedZone(34, 1, 2, 36, 2, 2, 40, 3, 2), 32, api.OK)
	wantTake(t, z, 2, 2, mixedZone(36, 2, 2, 40, 3, 2), 32, api.OK)
	wantTake(t, z, 3, 2, mixedZone(40, 3, 2), 32, api.OK)
	wantTake(t, z, 4, 2, mixedZone(), 32, api.OK)
}

// P3.7: of other types the greatest order first, and of one order the types in their order.
func TestTakeInstead(t *testing.T) {
	for _, c := range []struct{ t, first, second int }{
		{api.Fixed, api.Reclaim, api.Movable},
		{api.Movable, api.Reclaim, api.Fixed},
		{api.Reclaim, api.Fixed, api.Movable},
	} {
		// Of one order: the first one of the types, though it stands behind the other one.
		z := mixedZone(16, 1, c.second, 20, 1, c.first)
		wantTake(t, z, 1, c.t, mixedZone(16, 1, c.second), 20, api.OK)
		wantTake(t, z, 0, c.t, mixedZone(16, 1, c.second, 21, 0, c.first), 20, api.OK)
		// The greater one, whatever the order of the types, and though the lesser one would do.
		z = mixedZone(16, 0, c.first, 18, 1, c.second)
		wantTake(t, z, 0, c.t, mixedZone(16, 0, c.first, 19, 0, c.second), 18, api.OK)
		// The lowest one of those of one order and type.
		z = mixedZone(16, 1, c.second, 20, 1, c.second, 24, 1, c.second)
		wantTake(t, z, 1, c.t, mixedZone(20, 1, c.second, 24, 1, c.second), 16, api.OK)
		// None is great enough.
		z = mixedZone(16, 1, c.first, 20, 1, c.second, 24, 0, c.t, 32, 1, c.t)
		wantTake(t, z, 2, c.t, api.Zone{}, 0, api.ErrRoom)
	}
}

// P3.7: from BlockOrder - 1 on what is of another type is stolen, with its groups and all that is free in them.
func TestTakeStolen(t *testing.T) {
	with := func(g []int, l ...int) api.Zone {
		return api.Zone{From: 16, To: 80, Free: free(l...), Types: g}
	}
	// Of order 1: not stolen.
	z := mixedZone(16, 0, 1, 18, 1, 1, 22, 1, 1, 24, 0, 1)
	wantTake(t, z, 0, 0, mixedZone(16, 0, 1, 19, 0, 1, 22, 1, 1, 24, 0, 1), 18, api.OK)
	// Of order 2, the upper half of a group: what is free in the lower half is, too, whatever its type; no other group is.
	z = mixedZone(16, 0, 1, 18, 0, 2, 20, 2, 1, 24, 0, 1, 26, 1, 2)
	wantTake(t, z, 1, 0, with([]int{0, 1, 0, 0, 2, 2, 1, 0}, 16, 0, 0, 18, 0, 0, 22, 1, 0, 24, 0, 1, 26, 1, 2), 20, api.OK)
	// So, its lower half, taken whole; a block ahead of the group, and one behind it, stay.
	z = mixedZone(23, 0, 2, 24, 2, 1, 28, 0, 1, 30, 1, 2, 32, 0, 1)
	wantTake(t, z, 2, 0, with([]int{1, 0, 0, 0, 2, 2, 1, 0}, 23, 0, 2, 28, 0, 0, 30, 1, 0, 32, 0, 1), 24, api.OK)
	// Of order 3: one group.
	z = mixedZone(23, 0, 1, 24, 3, 2, 32, 0, 2)
	wantTake(t, z, 0, 0, with([]int{1, 0, 0, 0, 2, 2, 1, 0}, 23, 0, 1, 25, 0, 0, 26, 1, 0, 28, 2, 0, 32, 0, 2), 24, api.OK)
	// Of order 4: two groups, at the end of the zone.
	z = mixedZone(63, 0, 1, 64, 4, 1)
	wantTake(t, z, 3, 2, with([]int{1, 1, 0, 0, 2, 2, 2, 2}, 63, 0, 1, 72, 3, 2), 64, api.OK)
	wantTake(t, z, 4, 2, with([]int{1, 1, 0, 0, 2, 2, 2, 2}, 63, 0, 1), 64, api.OK)
	// Of its own type: nothing is stolen, though the group is of another one.
	z = mixedZone(16, 0, 1, 20, 2, 2, 24, 3, 2)
	wantTake(t, z, 2, 2, mixedZone(16, 0, 1, 24, 3, 2), 20, api.OK)
	wantTake(t, z, 3, 2, mixedZone(16, 0, 1, 20, 2, 2), 24, api.OK)
}

// P3.7, P3.8: all orders and types, of drawn zones; what comes out may be, too.
func TestTakeDrawn(t *testing.T) {
	d := die(39)
	for range 20000 {
		z := d.zone()
		for o := range 5 {
			for k := range 3 {
				want, at, f := taken(z, o, k)
				wantTake(t, z, o, k, want, at, f)
				x, _, _ := buddy.Take(z, o, k)
				if e := buddy.Check(x); e != api.OK {
					t.Errorf("Take %v %d %d: its answer %v may not be: %d", z, o, k, x, int(e))
				}
			}
		}
	}
}

// P3.7: what is wrong: the order ahead of the type, both ahead of there being no block.
func TestTakeWrong(t *testing.T) {
	for _, z := range []api.Zone{{}, zone(16, 32, 1), zone(16, 32, 1, 16, 4, 1, 32, 4, 0)} {
		for _, o := range append([]int{-1, 5, 63, 64}, strange...) {
			for _, k := range append([]int{0, 1, 2, 3, -1}, strange...) {
				wantTake(t, z, o, k, api.Zone{}, 0, api.ErrRange)
			}
		}
		for o := range 5 {
			for _, k := range append([]int{-1, 3, 4}, strange...) {
				wantTake(t, z, o, k, api.Zone{}, 0, api.ErrKind)
			}
		}
	}
	for o := range 5 {
		for k := range 3 {
			wantTake(t, api.Zone{}, o, k, api.Zone{}, 0, api.ErrRoom)
			wantTake(t, zone(16, 32, 1), o, k, api.Zone{}, 0, api.ErrRoom)
		}
	}
}

// Drawn calls, one behind the other: what is taken comes back, and in the end all is as it was, but for types.
func TestRoundTrip(t *testing.T) {
	d := die(40)
	for range 300 {
		z, _ := buddy.New(32, 32+16*(1+d.n(5)))
		z, _ = buddy.Give(z, 32, z.To-32)
		all, _ := mark(z.Free)
		var live []api.Block
		for range 60 {
			o, k := d.n(5), d.n(3)
			want, at, f := taken(z, o, k)
			wantTake(t, z, o, k, want, at, f)
			if f == api.OK {
				z, live = want, append(live, api.Block{At: at, Order: o})
			}
			if len(live) > 0 && d.n(3) == 0 {
				i := d.n(len(live))
				z, _ = buddy.Back(z, live[i].At, live[i].Order)
				live = slices.Delete(live, i, i+1)
			}
		}
		for _, b := range live {
			z, _ = buddy.Back(z, b.At, b.Order)
		}
		want := all.blocks()
		for i := range want {
			want[i].Type = z.Types[2*i]
		}
		if !slices.Equal(z.Free, want) {
			t.Errorf("all that was taken is back: %v, want %v", z.Free, want)
		}
	}
}

// spare: the same elements, with room behind them that is filled, too.
func spare[T any](l []T, fill T) []T {
	out := append(make([]T, 0, len(l)+3), l...)
	return append(out, fill, fill, fill)[:len(l)]
}

var noBlock = api.Block{At: -7, Order: -7, Type: -7}

// spareZone: the same zone, with spare room.
func spareZone(z api.Zone) api.Zone {
	return api.Zone{From: z.From, To: z.To, Free: spare(z.Free, noBlock), Types: spare(z.Types, -7)}
}

// untouched: is a zone that spareZone made, with its room, still as it was made from z?
func untouched(got, z api.Zone) bool {
	free, types := spare(z.Free, noBlock), spare(z.Types, -7)
	return slices.Equal(got.Free[:cap(got.Free)], free[:cap(free)]) && slices.Equal(got.Types[:cap(got.Types)], types[:cap(types)])
}

// spoil an answer, spare room too.
func spoil(z api.Zone) {
	for i := range z.Free[:cap(z.Free)] {
		z.Free[:cap(z.Free)][i] = api.Block{At: -9, Order: -9, Type: -9}
	}
	for i := range z.Types[:cap(z.Types)] {
		z.Types[:cap(z.Types)][i] = -9
	}
}

// calls: all that are handed a zone, as functions of that alone.
func calls() map[string]func(api.Zone) api.Zone {
	m := map[string]func(api.Zone) api.Zone{
		"Copy":   buddy.Copy,
		"Check":  func(z api.Zone) api.Zone { buddy.Check(z); return api.Zone{} },
		"Pages":  func(z api.Zone) api.Zone { buddy.Pages(z); return api.Zone{} },
		"TypeAt": func(z api.Zone) api.Zone { buddy.TypeAt(z, z.From); return api.Zone{} },
	}
	for n := range 20 {
		for o := range 5 {
			m[fmt.Sprint("Back ", n, o)] = func(z api.Zone) api.Zone { x, _ := buddy.Back(z, z.From+n, o); return x }
			m[fmt.Sprint("Give ", n, o)] = func(z api.Zone) api.Zone { x, _ := buddy.Give(z, z.From+n, o); return x }
		}
	}
	for o := range 6 {
		for k := range 4 {
			m[fmt.Sprint("Take ", o, k)] = func(z api.Zone) api.Zone { x, _, _ := buddy.Take(z, o, k); return x }
		}
	}
	return m
}

// What is handed in stays as it was, and what comes out is new memory, spare room too.
func TestNewMemory(t *testing.T) {
	d := die(41)
	zones := []api.Zone{{}, zone(16, 16, 1), zone(16, 16, 1, 16, 4, 1), mixedZone(16, 0, 1, 18, 0, 2, 20, 2, 1, 24, 0, 1, 26, 1, 2), zone(16, 16, 1, 17, 1, 1)}
	for range 40 {
		zones = append(zones, d.zone())
	}
	for name, call := range calls() {
		for _, z := range zones {
			in := spareZone(z)
			x, again := call(in), call(in)
			if !sameZone(x, again) {
				t.Errorf("%s %v: %v, then %v", name, z, x, again)
			}
			spoil(x)
			if !sameZone(again, call(spareZone(z))) {
				t.Errorf("%s %v: an answer is not its own: %v", name, z, again)
			}
			spoil(again)
			if !untouched(in, z) {
				t.Errorf("%s %v: what was handed in changed: %v", name, z, in)
			}
		}
	}
}

// New tells new memory each time.
func TestNewMemoryOfNew(t *testing.T) {
	x, _ := buddy.New(16, 48)
	y, _ := buddy.New(16, 48)
	spoil(x)
	wantZone(t, "New", y, api.OK, zone(16, 32, api.Movable), api.OK)
}

// All calls are answered from their arguments alone: what a zone was taken from does not change what another one answers.
func TestNothingKept(t *testing.T) {
	z := zone(0, 16, 1, 0, 4, 1)
	first, _, _ := buddy.Take(z, 0, 0)
	buddy.Take(first, 2, 2)
	buddy.Give(zone(0, 16, 0), 0, 16)
	second, _, _ := buddy.Take(z, 0, 0)
	if !sameZone(first, second) {
		t.Errorf("Take: %v, then %v", first, second)
	}
}
