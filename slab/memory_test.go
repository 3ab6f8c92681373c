package slab_test

import (
	"fmt"
	"slices"
	"testing"

	"paddock/api"
	"paddock/slab"
)

// spare: the same elements, with room behind them that is filled, too.
func spare[T any](l []T, fill T) []T {
	out := append(make([]T, 0, len(l)+3), l...)
	return append(out, fill, fill, fill)[:len(l)]
}

// fill a list, with its spare room.
func fill[T any](l []T, with T) {
	l = l[:cap(l)]
	for i := range l {
		l[i] = with
	}
}

var (
	noBlock = api.Block{At: -7, Order: -7, Type: -7}
	noSlab  = api.Slab{At: -7, Free: -7, First: -7}
)

// spareSystem: the same system, with spare room everywhere.
func spareSystem(s api.System) api.System {
	x := clone(s)
	h := &x.Heap
	for i, z := range h.Zones {
		h.Zones[i].Free, h.Zones[i].Types = spare(z.Free, noBlock), spare(z.Types, -7)
	}
	for i, l := range h.Lists {
		h.Lists[i].Pages = spare(l.Pages, -7)
	}
	for i, c := range x.Caches {
		x.Caches[i].Names, x.Caches[i].Slabs, x.Caches[i].Active = spare(c.Names, "-"), spare(c.Slabs, noSlab), spare(c.Active, -7)
	}
	h.Zones, h.Mins, h.Lists, h.Live = spare(h.Zones, api.Zone{From: -7}), spare(h.Mins, -7), spare(h.Lists, api.List{Cpu: -7}), spare(h.Live, noBlock)
	x.Words, x.Caches = spare(x.Words, -7), spare(x.Caches, api.Cache{Size: -7})
	return x
}

// part: a list within a system: it tells itself, and is filled, with its spare room.
type part struct {
	tell  func() string
	spoil func()
}

func partOf[T any](l []T, with T) part {
	return part{func() string { return fmt.Sprint(l[:cap(l)]) }, func() { fill(l, with) }}
}

// parts: all lists within a system, those in the spare room of others, too; the ones that hold others come last.
func parts(s api.System) []part {
	h := s.Heap
	l := []part{partOf(s.Words, -9), partOf(h.Mins, -9), partOf(h.Live, noBlock)}
	for _, z := range h.Zones[:cap(h.Zones)] {
		l = append(l, partOf(z.Free, noBlock), partOf(z.Types, -9))
	}
	for _, x := range h.Lists[:cap(h.Lists)] {
		l = append(l, partOf(x.Pages, -9))
	}
	for _, c := range s.Caches[:cap(s.Caches)] {
		l = append(l, partOf(c.Names, "!"), partOf(c.Slabs, noSlab), partOf(c.Active, -9))
	}
	return append(l, partOf(h.Zones, api.Zone{From: -9}), partOf(h.Lists, api.List{Cpu: -9}), partOf(s.Caches, api.Cache{Size: -9}))
}

func texts(l []part) []string {
	var out []string
	for _, p := range l {
		out = append(out, p.tell())
	}
	return out
}

// answer of a call: a system, and perhaps a list.
type answer struct {
	s api.System
	l []int
}

func (a answer) parts() []part { return append([]part{partOf(a.l, -9)}, parts(a.s)...) }

// calls: all that are handed a system, as functions of that alone; some of them are refused.
func calls() map[string]func(api.System) answer {
	one := func(s api.System, _ api.Errno) answer { return answer{s: s} }
	two := func(s api.System, _ int, _ api.Errno) answer { return answer{s: s} }
	three := func(s api.System, l []int, _ api.Errno) answer { return answer{s, l} }
	m := map[string]func(api.System) answer{
		"Copy":           func(s api.System) answer { return answer{s: slab.Copy(s)} },
		"Check":          func(s api.System) answer { slab.Check(s); return answer{} },
		"Create":         func(s api.System) answer { return one(slab.Create(s, "new", 63, 1)) },
		"Create twice":   func(s api.System) answer { return one(slab.Create(s, "a", 63, 1)) },
		"Create refused": func(s api.System) answer { return one(slab.Create(s, "new", 65, 1)) },
		"Create a name":  func(s api.System) answer { return one(slab.Create(s, "aa", 4, 1)) },
		"Alloc refused":  func(s api.System) answer { return two(slab.Alloc(s, "a", 9)) },
		"Bulk refused":   func(s api.System) answer { return three(slab.Bulk(s, "a", 0, 257)) },
	}
	for _, n := range []string{"a", "b", "c", "big", "none"} {
		m["Shrink "+n] = func(s api.System) answer { return one(slab.Shrink(s, n)) }
		m["Destroy "+n] = func(s api.System) answer { return one(slab.Destroy(s, n)) }
		for cpu := range 3 {
			m[fmt.Sprint("Alloc ", n, cpu)] = func(s api.System) answer { return two(slab.Alloc(s, n, cpu)) }
			m[fmt.Sprint("Bulk ", n, cpu)] = func(s api.System) answer { return three(slab.Bulk(s, n, cpu, 17)) }
			for _, addr := range []int{512, 552, 580, 640, 704, 5} {
				m[fmt.Sprint("Free ", n, cpu, addr)] = func(s api.System) answer { return one(slab.Free(s, n, cpu, addr)) }
				m[fmt.Sprint("Find ", addr)] = func(s api.System) answer { slab.Find(s, addr); return answer{} }
			}
		}
	}
	return m
}

// systems for which the calls have something to do.
func systems() []api.System {
	whole := some()
	for i, c := range whole.Caches {
		for k, b := range c.Slabs {
			var l []int
			for o := range c.Per {
				l = append(l, b.At*16+o*c.Size)
			}
			chain(whole.Words, l...)
			whole.Caches[i].Slabs[k] = api.Slab{At: b.At, Free: c.Per, First: l[0]}
		}
		whole.Caches[i].Names = c.Names[:1]
	}
	last := some() // one more, and the slab of page 34 goes
	chain(last.Words, 556, 548, 544)
	last.Caches[0].Slabs[1] = api.Slab{At: 34, Free: 3, First: 556}
	return []api.System{some(), whole, last, {}, changed(some(), func(s *api.System) { s.Heap.Cpus = 0 })}
}

// What is handed in stays as it was, and what comes out is new memory, spare room too; no two lists of an answer share any.
func TestNewMemory(t *testing.T) {
	for name, call := range calls() {
		for k, s := range systems() {
			in := spareSystem(s)
			before := texts(parts(in))
			x, other := call(in), call(in)
			if !same(x.s, other.s) || !slices.Equal(x.l, other.l) {
				t.Errorf("%s of system %d: one answer, then another one", name, k)
			}
			want := texts(other.parts())
			for _, p := range x.parts() {
				p.spoil()
			}
			if !slices.Equal(texts(other.parts()), want) {
				t.Errorf("%s of system %d: two answers share memory", name, k)
			}
			if !slices.Equal(texts(parts(in)), before) {
				t.Errorf("%s of system %d: what was handed in changed", name, k)
			}
			wantApart(t, fmt.Sprint(name, " of system ", k), other)
			if !slices.Equal(texts(parts(in)), before) {
				t.Errorf("%s of system %d: what was handed in is shared", name, k)
			}
		}
	}
}

// wantApart: does no list of an answer share memory with another one? Each one is filled in turn: no other one changes then.
func wantApart(t *testing.T, name string, a answer) {
	t.Helper()
	l := a.parts()
	// The last three hold others, and tell of these, too: they are left out.
	for i := range l[:len(l)-3] {
		before := texts(l[:len(l)-3])
		l[i].spoil()
		after := texts(l[:len(l)-3])
		before[i], after[i] = "", ""
		if !slices.Equal(before, after) {
			t.Errorf("%s: two lists of an answer share memory", name)
		}
	}
}
