package kmem_test

import (
	"fmt"
	"slices"
	"testing"

	"paddock/api"
	"paddock/kmem"
)

// spare: the same elements, with room behind them that is filled, too.
func spare[T any](l []T, fill T) []T {
	out := append(make([]T, 0, len(l)+3), l...)
	return append(out, fill, fill, fill)[:len(l)]
}

var (
	noBlock  = api.Block{At: -7, Order: -7, Type: -7}
	noSlab   = api.Slab{At: -7, Free: -7, First: -7}
	noRegion = api.Region{From: -7, Size: -7}
	noAct    = api.Act{Kind: -7, Name: "-"}
)

// spareSystem: the same system, with spare room everywhere.
func spareSystem(s api.System) api.System {
	x := clone(s)
	h := &x.Heap
	for i, z := range h.Zones {
		h.Zones[i].Free, h.Zones[i].Types = spare(z.Free, noBlock), spare(z.Types, -7)
	}
	for i, l := range h.Lists {
		h.Lists[i].Pages = spare(l.Pages, -7)
	}
	for i, c := range x.Caches {
		x.Caches[i].Names, x.Caches[i].Slabs, x.Caches[i].Active = spare(c.Names, "-"), spare(c.Slabs, noSlab), spare(c.Active, -7)
	}
	h.Zones, h.Mins, h.Lists, h.Live = spare(h.Zones, api.Zone{From: -7}), spare(h.Mins, -7), spare(h.Lists, api.List{Cpu: -7}), spare(h.Live, noBlock)
	x.Words, x.Caches = spare(x.Words, -7), spare(x.Caches, api.Cache{Size: -7})
	return x
}

// input of a call: all that there is of what the calls are handed.
type input struct {
	system api.System
	setup  api.Setup
	acts   []api.Act
}

// spareInput: the same, with spare room everywhere.
func spareInput(in input) input {
	u := in.setup
	u.Boot.Memory, u.Boot.Reserved = spare(u.Boot.Memory, noRegion), spare(u.Boot.Reserved, noRegion)
	return input{system: spareSystem(in.system), setup: u, acts: spare(in.acts, noAct)}
}

// answer of a call: a system, and perhaps answers to acts.
type answer struct {
	system api.System
	l      []api.Answer
}

// part: a list within an input or an answer: it tells itself, and is filled, with its spare room.
type part struct {
	tell  func() string
	spoil func()
}

func partOf[T any](l []T, with T) part {
	all := l[:cap(l)]
	spoil := func() {
		for i := range all {
			all[i] = with
		}
	}
	tell := func() string { return fmt.Sprint(all) }
	if words, ok := any(all).([]int); ok {
		tell = func() string { return digest(words) }
	}
	return part{tell, spoil}
}

// digest of numbers: to tell thousands of words each time takes too long.
func digest(l []int) string {
	h := uint64(len(l))
	for _, v := range l {
		h = (h ^ uint64(v)) * 1099511628211
	}
	return fmt.Sprint(h)
}

// partsOf a system: all lists within it, those in the spare room of others, too; and those that hold others.
func partsOf(s api.System) (l, holders []part) {
	h := s.Heap
	l = []part{partOf(s.Words, -9), partOf(h.Mins, -9), partOf(h.Live, noBlock)}
	for _, z := range h.Zones[:cap(h.Zones)] {
		l = append(l, partOf(z.Free, noBlock), partOf(z.Types, -9))
	}
	for _, x := range h.Lists[:cap(h.Lists)] {
		l = append(l, partOf(x.Pages, -9))
	}
	for _, c := range s.Caches[:cap(s.Caches)] {
		l = append(l, partOf(c.Names, "!"), partOf(c.Slabs, noSlab), partOf(c.Active, -9))
	}
	return l, []part{partOf(h.Zones, api.Zone{From: -9}), partOf(h.Lists, api.List{Cpu: -9}), partOf(s.Caches, api.Cache{Size: -9})}
}

func (in input) parts() []part {
	l, holders := partsOf(in.system)
	l = append(l, partOf(in.setup.Boot.Memory, noRegion), partOf(in.setup.Boot.Reserved, noRegion), partOf(in.acts, noAct))
	return append(l, holders...)
}

// parts, and behind them those that hold others.
func (a answer) parts() (l, holders []part) {
	l, holders = partsOf(a.system)
	for _, x := range a.l[:cap(a.l)] {
		l = append(l, partOf(x.List, -9))
	}
	return l, append(holders, partOf(a.l, api.Answer{N: -9}))
}

func texts(l []part) []string {
	var out []string
	for _, p := range l {
		out = append(out, p.tell())
	}
	return out
}

// calls: all that there are, as functions of an input; some of them are refused.
func calls() map[string]func(in input) answer {
	m := map[string]func(in input) answer{
		"New": func(in input) answer { s, _ := kmem.New(in.setup); return answer{system: s} },
		"Run": func(in input) answer { l, s, _ := kmem.Run(in.setup, in.acts); return answer{s, l} },
	}
	for cpu := range 3 {
		for _, n := range []int{0, 1, 3, 4, 9, 16, 33, 64, 256, 257} {
			m[fmt.Sprint("Alloc ", cpu, n)] = func(in input) answer { s, _, _ := kmem.Alloc(in.system, cpu, n); return answer{system: s} }
			for _, addr := range []int{1024, 1028, 1040, 1200, 1216, 1088, 5} {
				m[fmt.Sprint("Resize ", cpu, addr, n)] = func(in input) answer {
					s, _, _ := kmem.Resize(in.system, cpu, addr, n)
					return answer{system: s}
				}
			}
		}
		for _, addr := range []int{1024, 1028, 1040, 1200, 1216, 1088, 5} {
			m[fmt.Sprint("Size ", addr)] = func(in input) answer { kmem.Size(in.system, addr); return answer{} }
			m[fmt.Sprint("Free ", cpu, addr)] = func(in input) answer { s, _ := kmem.Free(in.system, cpu, addr); return answer{system: s} }
		}
	}
	return m
}

// inputs for which the calls have something to do; of the last one they refuse all.
func inputs(t *testing.T) []input {
	t.Helper()
	zones := api.Setup{Boot: api.Boot{Memory: []api.Region{{From: 0, Size: 20}, {From: 64, Size: 64}}, Reserved: []api.Region{{From: 3, Size: 9}}}, Split: 64, Min: 2, Cpus: 3}
	acts := append(begin(), api.Act{Kind: api.Bulk, Name: "ob", N: 7}, api.Act{Kind: api.Write, At: 1025, M: 9}, api.Act{Kind: api.Krealloc, At: 1024, N: 50}, api.Act{Kind: api.Bulk, Name: "k4", N: 3})
	var ends []input
	for _, last := range []api.Act{{Kind: api.Ksize, At: 1120}, {Kind: api.Drain}, {Kind: api.Read, At: 1088}, {Kind: api.Write, At: 1088, M: 4}, {Kind: api.Give, At: 70}, {Kind: api.Pages}, {Kind: api.Kfree, At: 9}, {Kind: 99}} {
		ends = append(ends, input{some(), zones, append(slices.Clone(acts), last)})
	}
	full := changed(some(), func(s *api.System) { s.Heap.Zones[1].Free = nil })
	bad := changed(some(), func(s *api.System) { s.Heap.Cpus = 0 })
	return append(ends, input{fresh(t), plain(), nil}, input{full, plain(), acts[:1]}, input{bad, api.Setup{Split: 1}, make([]api.Act, 301)})
}

// What is handed in stays as it was, and what comes out is new memory, spare room too; no two lists of an answer share any.
func TestNewMemory(t *testing.T) {
	for name, call := range calls() {
		for k, given := range inputs(t) {
			what := fmt.Sprint(name, " of input ", k)
			in := spareInput(given)
			before := texts(in.parts())
			x, other := call(in), call(in)
			if unlike(x.system, other.system) != "" || !slices.EqualFunc(x.l, other.l, sameAnswer) {
				t.Errorf("%s: one answer, then another one", what)
			}
			l, holders := other.parts()
			want := texts(append(l, holders...))
			mine, mineHolders := x.parts()
			for _, p := range append(mine, mineHolders...) {
				p.spoil()
			}
			if !slices.Equal(texts(append(l, holders...)), want) {
				t.Errorf("%s: two answers share memory", what)
			}
			if !slices.Equal(texts(in.parts()), before) {
				t.Errorf("%s: what was handed in changed, or is shared", what)
			}
			wantApart(t, what, l)
		}
	}
}

// wantApart: does no list of an answer share memory with another one? Each one is filled in turn: no other one changes then.
func wantApart(t *testing.T, what string, l []part) {
	t.Helper()
	for i := range l {
		before := texts(l)
		l[i].spoil()
		after := texts(l)
		before[i], after[i] = "", ""
		if !slices.Equal(before, after) {
			t.Errorf("%s: two lists of an answer share memory", what)
		}
	}
}
