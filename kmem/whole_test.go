package kmem_test

import (
	"maps"
	"slices"
	"testing"

	"paddock/api"
	"paddock/boot"
	"paddock/kmem"
	"paddock/pages"
	"paddock/slab"
)

// held: words that are given away: an object of a cache whose objects have so many, or whole pages.
type held struct {
	at, words int
	whole     bool
}

func (h held) byNumber() bool {
	return h.whole || slices.Contains([]int{1, 2, 4, 8, 16, 32}, h.words)
}

// ledger: what is given away as the answers tell it, without a look at the system: words that were written, and sizes by their caches' names.
type ledger struct {
	t       *testing.T
	free    []bool // of each page: may it be given away?
	live    []held
	written map[int]int
	sizes   map[string]int
}

func newLedger(t *testing.T, u api.Setup) *ledger {
	t.Helper()
	free, e := boot.Ranges(u.Boot)
	if e != api.OK {
		t.Fatalf("Ranges: %d", int(e))
	}
	b := &ledger{t, make([]bool, api.MaxPages), nil, map[int]int{}, map[string]int{"k1": 1, "k2": 2, "k4": 4, "k8": 8, "k16": 16, "k32": 32}}
	for _, r := range free {
		for at := r.From; at < r.From+r.Size; at++ {
			b.free[at] = true
		}
	}
	return b
}

// beginning: the place, among those live, of what begins at an address; -1: nothing does.
func (b *ledger) beginning(at int, is func(h held) bool) int {
	return slices.IndexFunc(b.live, func(h held) bool { return h.at == at && is(h) })
}

// holds: is a word given away?
func (b *ledger) holds(at int) bool {
	return slices.ContainsFunc(b.live, func(h held) bool { return at >= h.at && at < h.at+h.words })
}

// give words away: they must be free ones.
func (b *ledger) give(h held) {
	b.t.Helper()
	for at := h.at; at < h.at+h.words; at++ {
		if at < 0 || at >= 4096 || !b.free[at/16] {
			b.t.Fatalf("%+v is not free memory", h)
		}
	}
	for _, x := range b.live {
		if h.at < x.at+x.words && x.at < h.at+h.words {
			b.t.Fatalf("%+v is given away, but %+v is not given back", h, x)
		}
	}
	b.live = append(b.live, h)
}

// back: what is at a place among those live is not given away any more.
func (b *ledger) back(i int) {
	h := b.live[i]
	maps.DeleteFunc(b.written, func(at, _ int) bool { return at >= h.at && at < h.at+h.words })
	b.live = slices.Delete(b.live, i, i+1)
}

// numberSize: of what is asked by number.
func numberSize(n int) held {
	for _, size := range []int{1, 2, 4, 8, 16, 32, 64, 128, 256} {
		if n <= size {
			return held{words: size, whole: size > 32}
		}
	}
	return held{}
}

// note an act with its answer, which must be one that may come now.
func (b *ledger) note(a api.Act, r api.Answer) {
	b.t.Helper()
	switch a.Kind {
	case api.Pages:
		b.given(a, r, held{words: 16 << a.N, whole: true}, 16*r.N)
	case api.Kmalloc:
		b.given(a, r, numberSize(a.N), r.N)
	case api.New, api.Bulk:
		b.objects(a, r)
	case api.Give:
		b.goes(a, r, b.beginning(16*a.At, func(h held) bool { return h.whole }))
	case api.Kfree:
		b.goes(a, r, b.beginning(a.At, held.byNumber))
	case api.Drop:
		b.goes(a, r, b.beginning(a.At, func(h held) bool { return !h.whole && h.words == b.sizes[a.Name] }))
	case api.Ksize:
		b.size(a, r)
	case api.Krealloc:
		b.resized(a, r)
	case api.Read, api.Write:
		b.word(a, r)
	case api.Create, api.Destroy:
		b.named(a, r)
	case api.Shrink:
		b.want(a, r, api.Answer{Code: b.codeOfName(a.Name)})
	case api.Drain:
		b.want(a, r, ok(0))
	}
}

func (b *ledger) want(a api.Act, got, want api.Answer) {
	b.t.Helper()
	if !sameAnswer(got, want) {
		b.t.Fatalf("%+v: %+v, want %+v; %v is given away", a, got, want, b.live)
	}
}

func (b *ledger) codeOfName(n string) api.Errno {
	if _, ok := b.sizes[n]; !ok {
		return api.ErrNone
	}
	return api.OK
}

// given: something at an address, if there was room.
func (b *ledger) given(a api.Act, r api.Answer, h held, at int) {
	b.t.Helper()
	if r.Code != api.OK {
		b.want(a, r, no(api.ErrRoom))
		return
	}
	h.at = at
	b.give(h)
}

// objects: one, or so many.
func (b *ledger) objects(a api.Act, r api.Answer) {
	b.t.Helper()
	if e := b.codeOfName(a.Name); e != api.OK {
		b.want(a, r, no(e))
		return
	}
	l := r.List
	if a.Kind == api.New {
		l = []int{r.N}
	}
	if r.Code == api.OK && a.Kind == api.Bulk && len(l) != a.N {
		b.t.Fatalf("%+v: %+v", a, r)
	}
	for _, at := range l {
		b.given(a, api.Answer{Code: r.Code}, held{words: b.sizes[a.Name]}, at)
	}
}

// goes: what is at a place among those live; -1: nothing does.
func (b *ledger) goes(a api.Act, r api.Answer, i int) {
	b.t.Helper()
	if i < 0 {
		b.want(a, r, no(api.ErrNone))
		return
	}
	b.want(a, r, ok(0))
	b.back(i)
}

func (b *ledger) size(a api.Act, r api.Answer) {
	b.t.Helper()
	if i := b.beginning(a.At, held.byNumber); i >= 0 {
		b.want(a, r, ok(b.live[i].words))
		return
	}
	b.want(a, r, no(api.ErrNone))
}

// resized: the words that were written come along.
func (b *ledger) resized(a api.Act, r api.Answer) {
	b.t.Helper()
	i := b.beginning(a.At, held.byNumber)
	if i < 0 {
		b.want(a, r, no(api.ErrNone))
		return
	}
	if old := b.live[i]; a.N <= old.words {
		b.want(a, r, ok(a.At))
		return
	}
	if b.given(a, r, numberSize(a.N), r.N); r.Code != api.OK {
		return
	}
	for at, v := range maps.Clone(b.written) {
		if h := b.live[i]; at >= h.at && at < h.at+h.words {
			b.written[r.N+at-h.at] = v
		}
	}
	b.back(i)
}

// word: it is read, or written.
func (b *ledger) word(a api.Act, r api.Answer) {
	b.t.Helper()
	if !b.holds(a.At) {
		b.want(a, r, no(api.ErrNone))
		return
	}
	if a.Kind == api.Write {
		b.want(a, r, ok(0))
		b.written[a.At] = a.M
	} else if v, ok := b.written[a.At]; ok {
		b.want(a, r, api.Answer{N: v})
	}
}

// named: a name of a cache comes, or goes.
func (b *ledger) named(a api.Act, r api.Answer) {
	b.t.Helper()
	size, there := b.sizes[a.Name]
	same := 0
	for _, x := range b.sizes {
		if x == size {
			same++
		}
	}
	switch {
	case a.Kind == api.Create && there:
		b.want(a, r, no(api.ErrTwice))
	case a.Kind == api.Create:
		b.want(a, r, ok(0))
		b.sizes[a.Name] = a.N
	case !there:
		b.want(a, r, no(api.ErrNone))
	case same == 1 && slices.ContainsFunc(b.live, func(h held) bool { return !h.whole && h.words == size }):
		b.want(a, r, no(api.ErrBusy))
	default:
		b.want(a, r, ok(0))
		delete(b.sizes, a.Name)
	}
}

// somewhere: an address where something is given away, or one near to it.
func (d *die) somewhere(b *ledger) int {
	if len(b.live) == 0 || d.n(12) == 0 {
		return d.n(4096)
	}
	h := b.live[d.n(len(b.live))]
	return h.at + []int{0, 0, 0, 0, h.words - 1, h.words, d.n(h.words)}[d.n(7)]
}

// act that looks drawn.
func (d *die) act(b *ledger, cpus int) api.Act {
	a := api.Act{Cpu: d.n(cpus), At: d.somewhere(b), Name: []string{"ob", "five", "four", "big", "k4", "k16"}[d.n(6)]}
	a.Kind = []int{1, 2, 3, 4, 5, 5, 5, 6, 6, 7, 8, 8, 8, 8, 9, 9, 10, 11, 11, 12, 13, 13, 13, 13, 13, 13, 14, 14, 15}[d.n(29)]
	switch a.Kind {
	case api.Pages:
		a.N, a.Flags = d.n(d.n(4)+1), []int{0, 1, 2, 4, 8, 13}[d.n(6)]
	case api.Give:
		a.At /= 16
	case api.Create, api.Destroy:
		a.Name = []string{"ob", "five", "four", "big"}[d.n(4)]
		a.N, a.M = map[string]int{"ob": 5, "five": 5, "four": 4, "big": 40}[a.Name], 1
	case api.Kmalloc, api.Krealloc:
		a.N = 1 + d.n([]int{4, 16, 40, 256}[d.n(4)])
	case api.Write:
		a.M = []int{d.n(1000), -d.n(1000), 1 << 40, -1 << 40, -1}[d.n(5)]
	case api.Bulk:
		a.N = 1 + d.n(9)
	}
	return a
}

// P6.8: in drawn scripts words that were written stay till they are given back, and nothing is given away twice.
func TestRunKeeps(t *testing.T) {
	d := die(608)
	for range 40 {
		u := api.Setup{Boot: api.Boot{
			Memory:   []api.Region{{From: d.n(20), Size: 10 + d.n(20)}, {From: 64 + d.n(20), Size: 20 + d.n(100)}},
			Reserved: []api.Region{{From: 20, Size: 3}, {From: 90, Size: 1 + d.n(5)}},
		}, Split: 16 * d.n(9), Min: d.n(6), Cpus: 1 + d.n(4)}
		b := newLedger(t, u)
		var l []api.Act
		var s api.System
		for len(l) < api.MaxActs {
			done := len(l)
			for range 12 {
				l = append(l, d.act(b, u.Cpus))
			}
			var r []api.Answer
			if r, s, _ = kmem.Run(u, l); len(r) != len(l) {
				t.Fatalf("%d answers to %d acts", len(r), len(l))
			}
			for i := done; i < len(l); i++ {
				b.note(l[i], r[i])
			}
			b.wantKept(s)
		}
		b.wantAllBack(s)
	}
}

// wantKept: are all words in a system as they were written?
func (b *ledger) wantKept(s api.System) {
	b.t.Helper()
	wantMayBe(b.t, "Run", s)
	for at, v := range b.written {
		if s.Words[at] != v {
			b.t.Errorf("word %d is %d, but %d was written", at, s.Words[at], v)
		}
	}
}

// wantAllBack: once all is given back the pages are free, as they were at first.
func (b *ledger) wantAllBack(s api.System) {
	b.t.Helper()
	e := api.OK
	for len(b.live) > 0 && e == api.OK {
		h := b.live[0]
		if h.byNumber() {
			s, e = kmem.Free(s, 0, h.at)
		} else {
			i := slices.IndexFunc(s.Caches, func(c api.Cache) bool { return c.Size == h.words })
			s, e = slab.Free(s, s.Caches[i].Names[0], 0, h.at)
		}
		b.back(0)
		b.wantKept(s)
	}
	for _, c := range s.Caches {
		if e == api.OK {
			s, e = slab.Shrink(s, c.Names[0])
		}
	}
	h, f := pages.Drain(s.Heap)
	if e != api.OK || f != api.OK || len(h.Live) > 0 {
		b.t.Fatalf("all is given back: %d, %d, %v", int(e), int(f), h.Live)
	}
	for at, want := range b.free {
		inBlock := func(x api.Block) bool { return at >= x.At && at < x.At+1<<x.Order }
		got := slices.ContainsFunc(h.Zones[0].Free, inBlock) || slices.ContainsFunc(h.Zones[1].Free, inBlock)
		if got != want {
			b.t.Errorf("all is given back: is page %d free? %v, want %v", at, got, want)
		}
	}
}
