package kmem_test

import (
	"fmt"
	"math"
	"slices"
	"strings"
	"testing"

	"paddock/api"
	"paddock/kmem"
	"paddock/pages"
	"paddock/slab"
)

// strange numbers: far outside of all bounds, and so that sums, differences and products of them wrap round.
var strange = []int{math.MinInt, math.MinInt + 1, math.MinInt + 1024, -1 << 60, -1 << 32, -64, -16, 1 << 32, 1<<32 + 64, 1<<32 + 1024, 1 << 60, 1<<60 + 64, math.MaxInt - 1023, math.MaxInt - 15, math.MaxInt - 1, math.MaxInt}

// die: numbers that look drawn, the same each time.
type die uint64

func (d *die) n(most int) int {
	*d = *d*6364136223846793005 + 1442695040888963407
	return int(uint64(*d>>33) % uint64(most))
}

// blocks: the place, the order and the type of each.
func blocks(l ...int) []api.Block {
	var out []api.Block
	for i := 0; i < len(l); i += 3 {
		out = append(out, api.Block{At: l[i], Order: l[i+1], Type: l[i+2]})
	}
	return out
}

// slabs: the page, how many objects are free, and the first one of each.
func slabs(l ...int) []api.Slab {
	var out []api.Slab
	for i := 0; i < len(l); i += 3 {
		out = append(out, api.Slab{At: l[i], Free: l[i+1], First: l[i+2]})
	}
	return out
}

// chain addresses through words.
func chain(w []int, l ...int) {
	for i, at := range l {
		w[at] = -1
		if i > 0 {
			w[l[i-1]] = at
		}
	}
}

// clone: the same, in memory of its own.
func clone(s api.System) api.System {
	x := s
	x.Words, x.Caches, x.Heap = slices.Clone(s.Words), slices.Clone(s.Caches), pages.Copy(s.Heap)
	for i, c := range x.Caches {
		x.Caches[i].Names, x.Caches[i].Slabs, x.Caches[i].Active = slices.Clone(c.Names), slices.Clone(c.Slabs), slices.Clone(c.Active)
	}
	return x
}

// changed: a copy, in which something is otherwise.
func changed(s api.System, how func(s *api.System)) api.System {
	x := clone(s)
	how(&x)
	return x
}

// tell a system without its words. (A list without elements is told alike, nil or not.)
func tell(s api.System) string { return fmt.Sprintf("%+v %+v", s.Heap, s.Caches) }

// unlike: what of an answer is not as it should be, as a text.
func unlike(got, want api.System) string {
	var l []string
	if len(got.Words) != len(want.Words) {
		l = append(l, fmt.Sprintf("%d words, want %d", len(got.Words), len(want.Words)))
	}
	for i := range min(len(got.Words), len(want.Words)) {
		if got.Words[i] != want.Words[i] && len(l) < 5 {
			l = append(l, fmt.Sprintf("word %d is %d, want %d", i, got.Words[i], want.Words[i]))
		}
	}
	if a, b := tell(got), tell(want); a != b {
		l = append(l, a+", want "+b)
	}
	return strings.Join(l, "; ")
}

// wantSystem: an answer as it should be.
func wantSystem(t *testing.T, what string, got api.System, e api.Errno, want api.System, f api.Errno) {
	t.Helper()
	if diff := unlike(got, want); e != f || diff != "" {
		t.Errorf("%s: %d, want %d; %s", what, int(e), int(f), diff)
	}
}

func wantMayBe(t *testing.T, what string, s api.System) {
	t.Helper()
	if e := slab.Check(s); e != api.OK {
		t.Errorf("%s: what came out may not be: %s", what, tell(s))
	}
}

func wantNew(t *testing.T, u api.Setup, want api.System, f api.Errno) {
	t.Helper()
	x, e := kmem.New(u)
	wantSystem(t, fmt.Sprintf("New %+v", u), x, e, want, f)
}

func wantAlloc(t *testing.T, s api.System, cpu, n int, want api.System, at int, f api.Errno) {
	t.Helper()
	x, got, e := kmem.Alloc(s, cpu, n)
	what := fmt.Sprintf("Alloc %d %d in %s", cpu, n, tell(s))
	wantSystem(t, what, x, e, want, f)
	if got != at {
		t.Errorf("%s: at %d, want %d", what, got, at)
	}
}

func wantSize(t *testing.T, s api.System, addr, n int, f api.Errno) {
	t.Helper()
	if got, e := kmem.Size(s, addr); got != n || e != f {
		t.Errorf("Size %d in %s: %d, %d; want %d, %d", addr, tell(s), got, int(e), n, int(f))
	}
}

func wantFree(t *testing.T, s api.System, cpu, addr int, want api.System, f api.Errno) {
	t.Helper()
	x, e := kmem.Free(s, cpu, addr)
	wantSystem(t, fmt.Sprintf("Free %d %d in %s", cpu, addr, tell(s)), x, e, want, f)
}

func wantResize(t *testing.T, s api.System, cpu, addr, n int, want api.System, at int, f api.Errno) {
	t.Helper()
	x, got, e := kmem.Resize(s, cpu, addr, n)
	what := fmt.Sprintf("Resize %d %d %d in %s", cpu, addr, n, tell(s))
	wantSystem(t, what, x, e, want, f)
	if got != at {
		t.Errorf("%s: at %d, want %d", what, got, at)
	}
}

// sameAnswer: are they? A list without elements may be nil or not.
func sameAnswer(a, b api.Answer) bool {
	return a.Code == b.Code && a.N == b.N && slices.Equal(a.List, b.List)
}

// wantRun: the answers to acts; the system in the end is told.
func wantRun(t *testing.T, u api.Setup, l []api.Act, want ...api.Answer) api.System {
	t.Helper()
	got, s, e := kmem.Run(u, l)
	if e != api.OK || len(got) != len(want) {
		t.Fatalf("Run %+v %+v: %d answers, %d; want %d", u, l, len(got), int(e), len(want))
	}
	for i := range got {
		if !sameAnswer(got[i], want[i]) {
			t.Errorf("Run: act %d, %+v: %+v, want %+v", i, l[i], got[i], want[i])
		}
	}
	wantMayBe(t, "Run", s)
	return s
}
