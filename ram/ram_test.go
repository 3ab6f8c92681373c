package ram_test

import (
	"fmt"
	"math"
	"slices"
	"testing"

	"paddock/api"
	"paddock/ram"
)

// same: is the answer as it should be? A list without elements may be nil or not.
func same(t *testing.T, what string, got []int, e api.Errno, want []int, f api.Errno) {
	t.Helper()
	if e != f || !slices.Equal(got, want) {
		t.Errorf("%s: %v, %d; want %v, %d", what, got, int(e), want, int(f))
	}
}

// strange numbers: far outside of all bounds, and so that sums and products of them wrap round.
var strange = []int{math.MinInt, math.MinInt + 1, math.MinInt / 2, -1 << 32, -2, math.MaxInt / 2, 1 << 32, 1 << 58, 1 << 62, math.MaxInt - 1, math.MaxInt}

// eachList calls f with all lists of up to most words, each from least to their number.
func eachList(most, least int, f func(w []int)) {
	var grow func(w []int, n int)
	grow = func(w []int, n int) {
		if len(w) == n {
			f(w)
			return
		}
		for v := least; v <= n; v++ {
			grow(append(w[:len(w):len(w)], v), n)
		}
	}
	for n := range most + 1 {
		grow(nil, n)
	}
}

// count: a list of the words 100, 101, ..
func count(n int) []int {
	l := make([]int, n)
	for i := range l {
		l[i] = 100 + i
	}
	return l
}

// P1.1: PageWords words a page, all 0.
func TestNew(t *testing.T) {
	for _, n := range []int{0, 1, 2, 17, api.MaxPages - 1, api.MaxPages} {
		w, e := ram.New(n)
		same(t, fmt.Sprint("New ", n), w, e, make([]int, n*api.PageWords), api.OK)
	}
	for _, n := range append([]int{-1, api.MaxPages + 1}, strange...) {
		w, e := ram.New(n)
		same(t, fmt.Sprint("New ", n), w, e, nil, api.ErrRange)
	}
}

// P1.1: words of one call are not those of another one.
func TestNewIsNew(t *testing.T) {
	a, _ := ram.New(1)
	full := a[:cap(a)]
	for i := range full {
		full[i] = 7
	}
	b, e := ram.New(1)
	same(t, "New behind a written one", b, e, make([]int, api.PageWords), api.OK)
}

// P1.2: the word at an address.
func TestLoad(t *testing.T) {
	w := []int{5, -1, math.MinInt, math.MaxInt}
	for at, want := range w {
		if v, e := ram.Load(w, at); v != want || e != api.OK {
			t.Errorf("Load %d: %d, %d; want %d", at, v, int(e), want)
		}
	}
	for _, at := range append([]int{-1, 4, 5}, strange...) {
		if v, e := ram.Load(w, at); v != 0 || e != api.ErrRange {
			t.Errorf("Load %d: %d, %d; want 0, ErrRange", at, v, int(e))
		}
	}
	for _, empty := range [][]int{nil, {}, w[:0]} {
		if v, e := ram.Load(empty, 0); v != 0 || e != api.ErrRange {
			t.Errorf("Load of no words: %d, %d; want 0, ErrRange", v, int(e))
		}
	}
}

// P1.2: that word is v, the others stay.
func TestStore(t *testing.T) {
	for _, v := range append([]int{0, -1, 9}, strange...) {
		for at := range 3 {
			want := count(3)
			want[at] = v
			l, e := ram.Store(count(3), at, v)
			same(t, fmt.Sprint("Store ", at, v), l, e, want, api.OK)
		}
	}
	for _, at := range append([]int{-1, 3, 4}, strange...) {
		l, e := ram.Store(count(3), at, 9)
		same(t, fmt.Sprint("Store ", at), l, e, nil, api.ErrRange)
	}
	l, e := ram.Store(nil, 0, 9)
	same(t, "Store in no words", l, e, nil, api.ErrRange)
	l, e = ram.Store(count(4)[:3], 3, 9)
	same(t, "Store in spare room", l, e, nil, api.ErrRange)
}

// moved: what Move should answer, word by word.
func moved(w []int, to, from, n int) ([]int, api.Errno) {
	if n < 0 {
		return nil, api.ErrRange
	}
	l := slices.Clone(w)
	for i := range n {
		if to+i < 0 || to+i >= len(w) || from+i < 0 || from+i >= len(w) {
			return nil, api.ErrRange
		}
		l[to+i] = w[from+i]
	}
	return l, api.OK
}

// P1.3: all moves among few words, upward, downward and overlapping, and those just outside.
func TestMove(t *testing.T) {
	for size := range 7 {
		for to := -2; to <= size+1; to++ {
			for from := -2; from <= size+1; from++ {
				for n := -2; n <= size+1; n++ {
					l, e := ram.Move(count(size), to, from, n)
					want, f := moved(count(size), to, from, n)
					same(t, fmt.Sprint("Move ", size, to, from, n), l, e, want, f)
				}
			}
		}
	}
}

// P1.3: numbers that wrap round.
func TestMoveStrange(t *testing.T) {
	for _, x := range strange {
		for at := range 4 {
			l, e := ram.Move(count(4), x, at, 1)
			same(t, fmt.Sprint("Move to ", x), l, e, nil, api.ErrRange)
			l, e = ram.Move(count(4), at, x, 1)
			same(t, fmt.Sprint("Move from ", x), l, e, nil, api.ErrRange)
			l, e = ram.Move(count(4), at, at, x)
			same(t, fmt.Sprint("Move so many: ", x), l, e, nil, api.ErrRange)
		}
		for _, y := range strange {
			l, e := ram.Move(count(4), x, x, y)
			same(t, fmt.Sprint("Move ", x, y), l, e, nil, api.ErrRange)
		}
	}
	l, e := ram.Move(count(4)[:3], 0, 1, 3)
	same(t, "Move from spare room", l, e, nil, api.ErrRange)
	l, e = ram.Move(count(4)[:3], 1, 0, 3)
	same(t, "Move to spare room", l, e, nil, api.ErrRange)
}

// P1.3: no words are there wherever they are said to be.
func TestMoveNothing(t *testing.T) {
	for _, x := range append([]int{-1, 0, 2, 3, 4}, strange...) {
		l, e := ram.Move(count(3), x, 0, 0)
		same(t, fmt.Sprint("Move nothing to ", x), l, e, count(3), api.OK)
		l, e = ram.Move(count(3), 0, x, 0)
		same(t, fmt.Sprint("Move nothing from ", x), l, e, count(3), api.OK)
	}
	l, e := ram.Move(nil, 0, 0, 0)
	same(t, "Move nothing in no words", l, e, nil, api.OK)
}

// chained: what Chain should answer, object by object.
func chained(w []int, at, size, n int) ([]int, api.Errno) {
	if size < 1 || size > api.MaxObject || n < 1 || n > len(w) || at < 0 {
		return nil, api.ErrRange
	}
	l := slices.Clone(w)
	for i := range n {
		first := at + i*size
		if first+size > len(w) {
			return nil, api.ErrRange
		}
		l[first] = first + size
		if i == n-1 {
			l[first] = -1
		}
	}
	return l, api.OK
}

// P1.4: all chains in few words, and those just outside.
func TestChain(t *testing.T) {
	for words := range 9 {
		for at := -2; at <= words+1; at++ {
			for size := -1; size <= words+1; size++ {
				for n := -1; n <= words+1; n++ {
					l, e := ram.Chain(count(words), at, size, n)
					want, f := chained(count(words), at, size, n)
					same(t, fmt.Sprint("Chain ", words, at, size, n), l, e, want, f)
				}
			}
		}
	}
}

// P1.4: the greatest objects, and greater ones.
func TestChainSizes(t *testing.T) {
	for _, size := range []int{api.MaxObject - 1, api.MaxObject, api.MaxObject + 1} {
		for _, n := range []int{1, 3} {
			for _, spare := range []int{-1, 0, 5} {
				w := count(2 + size*n + spare)
				l, e := ram.Chain(w, 2, size, n)
				want, f := chained(w, 2, size, n)
				same(t, fmt.Sprint("Chain of great ones ", size, n, spare), l, e, want, f)
			}
		}
	}
}

// P1.4: numbers that wrap round.
func TestChainStrange(t *testing.T) {
	for _, x := range strange {
		for _, c := range [][3]int{{x, 1, 1}, {0, x, 1}, {0, 1, x}, {0, 2, x}, {0, 64, x}, {0, x, 4}, {x, x, 1}, {x, 1, x}, {0, x, x}, {x, x, x}} {
			l, e := ram.Chain(count(8), c[0], c[1], c[2])
			same(t, fmt.Sprint("Chain ", c), l, e, nil, api.ErrRange)
		}
	}
	l, e := ram.Chain(count(9)[:8], 1, 4, 2)
	same(t, "Chain in spare room", l, e, nil, api.ErrRange)
}

// followed: what Follow should answer, with marks at all addresses that came.
func followed(w []int, at, most int) ([]int, api.Errno) {
	var l []int
	came := map[int]bool{}
	for at != -1 {
		if at < 0 || at >= len(w) || came[at] {
			return nil, api.ErrState
		}
		came[at] = true
		l = append(l, at)
		at = w[at]
	}
	if len(l) > most {
		return nil, api.ErrState
	}
	return l, api.OK
}

// P1.4: all chains through few words, also those that come round, or leave them.
func TestFollow(t *testing.T) {
	eachList(4, -2, func(w []int) {
		for at := -2; at <= len(w); at++ {
			for most := -1; most <= len(w)+1; most++ {
				l, e := ram.Follow(w, at, most)
				want, f := followed(w, at, most)
				same(t, fmt.Sprint("Follow ", w, at, most), l, e, want, f)
			}
		}
	})
}

// P1.4: numbers far outside; a chain that goes round ends whatever most is.
func TestFollowStrange(t *testing.T) {
	for _, x := range strange {
		l, e := ram.Follow([]int{-1}, x, 5)
		same(t, fmt.Sprint("Follow from ", x), l, e, nil, api.ErrState)
		l, e = ram.Follow([]int{1, x}, 0, 5)
		same(t, fmt.Sprint("Follow to ", x), l, e, nil, api.ErrState)
		l, e = ram.Follow([]int{1, 2, 0}, 0, x)
		same(t, fmt.Sprint("Follow round, at most ", x), l, e, nil, api.ErrState)
		want, f := []int{0, 1}, api.OK
		if x < 0 {
			want, f = nil, api.ErrState
		}
		l, e = ram.Follow([]int{1, -1}, 0, x)
		same(t, fmt.Sprint("Follow two, at most ", x), l, e, want, f)
	}
	l, e := ram.Follow([]int{1, -1}[:1], 0, 5)
	same(t, "Follow into spare room", l, e, nil, api.ErrState)
}

// P1.4: -1 begins a chain without addresses.
func TestFollowNothing(t *testing.T) {
	for _, w := range [][]int{nil, {}, {0}} {
		l, e := ram.Follow(w, -1, 0)
		same(t, "Follow nothing", l, e, nil, api.OK)
		l, e = ram.Follow(w, -1, -1)
		same(t, "Follow nothing, at most -1", l, e, nil, api.ErrState)
	}
}

// P1.4: what Chain chains Follow finds, in the same order.
func TestFollowChain(t *testing.T) {
	w, _ := ram.New(api.MaxPages)
	for _, c := range [][3]int{{0, 1, len(w)}, {0, api.MaxObject, len(w) / api.MaxObject}, {7, 3, 100}} {
		l, e := ram.Chain(w, c[0], c[1], c[2])
		if e != api.OK {
			t.Fatalf("Chain %v: %d", c, int(e))
		}
		var want []int
		for i := range c[2] {
			want = append(want, c[0]+i*c[1])
		}
		got, e := ram.Follow(l, c[0], c[2])
		same(t, fmt.Sprint("Follow chain ", c), got, e, want, api.OK)
		got, e = ram.Follow(l, c[0], c[2]-1)
		same(t, fmt.Sprint("Follow all but one of chain ", c), got, e, nil, api.ErrState)
	}
}

// calls that are handed words and answer a list; some of them are refused.
func calls() map[string]func(w []int) []int {
	list := func(l []int, _ api.Errno) []int { return l }
	return map[string]func(w []int) []int{
		"Load":           func(w []int) []int { ram.Load(w, 1); return nil },
		"Store":          func(w []int) []int { return list(ram.Store(w, 1, 50)) },
		"Store refused":  func(w []int) []int { return list(ram.Store(w, 6, 50)) },
		"Move":           func(w []int) []int { return list(ram.Move(w, 1, 0, 4)) },
		"Move nothing":   func(w []int) []int { return list(ram.Move(w, 6, 6, 0)) },
		"Move itself":    func(w []int) []int { return list(ram.Move(w, 0, 0, 6)) },
		"Move refused":   func(w []int) []int { return list(ram.Move(w, 3, 0, 4)) },
		"Chain":          func(w []int) []int { return list(ram.Chain(w, 0, 2, 3)) },
		"Chain refused":  func(w []int) []int { return list(ram.Chain(w, 1, 2, 3)) },
		"Follow":         func(w []int) []int { return list(ram.Follow(w, 0, 9)) },
		"Follow refused": func(w []int) []int { return list(ram.Follow(w, 0, 2)) },
	}
}

// P1.2 to P1.4: what is handed in stays as it was, its spare room too, and shares nothing with an answer, nor do two answers.
func TestNewMemory(t *testing.T) {
	for name, call := range calls() {
		whole := []int{2, 4, 4, 8, 5, -1, 61, 62, 63, 64}
		was := slices.Clone(whole)
		a := call(whole[:6])
		b := call(whole[:6])
		kept := slices.Clone(b)
		if !slices.Equal(a, b) {
			t.Errorf("%s: %v, then %v", name, a, b)
		}
		full := a[:cap(a)]
		for i := range full {
			full[i] = 77
		}
		if !slices.Equal(whole, was) {
			t.Errorf("%s: what was handed in is %v, was %v", name, whole, was)
		}
		if !slices.Equal(b, kept) {
			t.Errorf("%s: two answers share memory", name)
		}
	}
}
