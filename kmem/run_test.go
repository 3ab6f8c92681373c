package kmem_test

import (
	"fmt"
	"slices"
	"testing"

	"paddock/api"
	"paddock/kmem"
	"paddock/pages"
	"paddock/slab"
)

func ok(n int) api.Answer { return api.Answer{N: n} }

func list(l ...int) api.Answer { return api.Answer{List: l} }

func no(e api.Errno) api.Answer { return api.Answer{Code: e} }

// P6.7: each kind, one by one; what DOC.md says of the whole is the beginning.
func TestRun(t *testing.T) {
	acts := []struct {
		a    api.Act
		want api.Answer
	}{
		{api.Act{Kind: api.Kmalloc, N: 3}, ok(1024)},
		{api.Act{Kind: api.Kmalloc, N: 3}, ok(1028)},
		{api.Act{Kind: api.Kfree, At: 1024}, ok(0)},
		{api.Act{Kind: api.Kmalloc, N: 3}, ok(1024)},
		{api.Act{Kind: api.Kmalloc, N: 100}, ok(1152)},
		{api.Act{Kind: api.Kfree, At: 1025}, no(api.ErrNone)},
		{api.Act{Kind: api.Ksize, At: 1024}, ok(4)},
		{api.Act{Kind: api.Ksize, At: 1152}, ok(128)},
		{api.Act{Kind: api.Ksize, At: 1168}, no(api.ErrNone)},
		{api.Act{Kind: api.Write, At: 1028, M: 77}, ok(0)},
		{api.Act{Kind: api.Write, At: 1031, M: -78}, ok(0)},
		{api.Act{Kind: api.Read, At: 1031}, ok(-78)},
		{api.Act{Kind: api.Read, At: 1030}, ok(0)},
		{api.Act{Kind: api.Krealloc, At: 1028, N: 4}, ok(1028)},
		{api.Act{Kind: api.Krealloc, At: 1028, N: 5}, ok(1088)},
		{api.Act{Kind: api.Read, At: 1088}, ok(77)},
		{api.Act{Kind: api.Read, At: 1091}, ok(-78)},
		{api.Act{Kind: api.Read, At: 1028}, no(api.ErrNone)},
		{api.Act{Kind: api.Create, Name: "ob", N: 5, M: 1}, ok(0)},
		{api.Act{Kind: api.Create, Name: "five", N: 5, M: 1}, ok(0)},
		{api.Act{Kind: api.Create, Name: "four", N: 3, M: 2}, ok(0)},
		{api.Act{Kind: api.New, Name: "ob", Cpu: 1}, ok(1120)},
		{api.Act{Kind: api.Bulk, Name: "five", Cpu: 1, N: 3}, list(1125, 1130, 1135)},
		{api.Act{Kind: api.New, Name: "four"}, ok(1028)},
		{api.Act{Kind: api.Ksize, At: 1120}, no(api.ErrNone)},
		{api.Act{Kind: api.Ksize, At: 1028}, ok(4)},
		{api.Act{Kind: api.Kfree, At: 1120}, no(api.ErrNone)},
		{api.Act{Kind: api.Drop, Name: "ob", Cpu: 1, At: 1125}, ok(0)},
		{api.Act{Kind: api.Drop, Name: "ob", Cpu: 1, At: 1125}, no(api.ErrNone)},
		{api.Act{Kind: api.New, Name: "ob", Cpu: 1}, ok(1125)},
		{api.Act{Kind: api.Destroy, Name: "five"}, ok(0)},
		{api.Act{Kind: api.Destroy, Name: "five"}, no(api.ErrNone)},
		{api.Act{Kind: api.Destroy, Name: "ob"}, no(api.ErrBusy)},
		{api.Act{Kind: api.Destroy, Name: "four"}, ok(0)},
		{api.Act{Kind: api.Destroy, Name: "k4"}, no(api.ErrForm)},
		{api.Act{Kind: api.Pages, Cpu: 1, N: 1, Flags: api.Moves}, ok(80)},
		{api.Act{Kind: api.Pages, Cpu: 1, N: 0, Flags: api.Moves}, ok(82)},
		{api.Act{Kind: api.Give, Cpu: 1, At: 80}, ok(0)},
		{api.Act{Kind: api.Give, Cpu: 1, At: 80}, no(api.ErrNone)},
		{api.Act{Kind: api.Drain}, ok(0)},
		{api.Act{Kind: api.Shrink, Name: "k8"}, ok(0)},
		{api.Act{Kind: api.Kfree, Cpu: 1, At: 1312}, ok(0)},
		{api.Act{Kind: api.Give, Cpu: 1, At: 72}, ok(0)},
		{api.Act{Kind: 16}, no(api.ErrKind)},
	}
	var l []api.Act
	var want []api.Answer
	for _, x := range acts {
		l, want = append(l, x.a), append(want, x.want)
	}
	wantRun(t, plain(), l, want...)
	for n := range l {
		wantRun(t, plain(), l[:n], want[:n]...)
	}
}

// P6.7: what New refuses, then too many acts; with an error there is nothing else.
func TestRunWrong(t *testing.T) {
	bad := plain()
	bad.Split = 3
	worse := plain()
	worse.Boot.Reserved = []api.Region{{From: -1, Size: 1}}
	for _, c := range []struct {
		u    api.Setup
		acts int
		want api.Errno
	}{{bad, 0, api.ErrRange}, {bad, 300, api.ErrRange}, {bad, 301, api.ErrRange}, {worse, 5, api.ErrState}, {worse, 1000, api.ErrState}, {plain(), 301, api.ErrSize}, {plain(), 5000, api.ErrSize}, {api.Setup{}, 0, api.ErrRange}} {
		l, s, e := kmem.Run(c.u, slices.Repeat([]api.Act{{Kind: api.Kmalloc, N: 1}}, c.acts))
		if len(l) != 0 {
			t.Errorf("Run %+v with %d acts: %d answers", c.u, c.acts, len(l))
		}
		wantSystem(t, fmt.Sprintf("Run %+v with %d acts", c.u, c.acts), s, e, api.System{}, c.want)
	}
	// As many as may be.
	l := slices.Repeat([]api.Act{{Kind: api.Kmalloc, N: 1}}, 300)
	want := make([]api.Answer, 300)
	s, _ := kmem.New(plain())
	for i := range want {
		s, want[i].N, _ = slab.Alloc(s, "k1", 0)
	}
	wantSystem(t, "Run of 300 acts", wantRun(t, plain(), l, want...), api.OK, s, api.OK)
	wantSystem(t, "Run of none", wantRun(t, plain(), nil), api.OK, fresh(t), api.OK)
}

// begin: acts that give something of each kind away in the plain setup.
// An object of 4 words is at 1024, one of 5 at 1088; whole pages are 67, and 70 and 71.
func begin() []api.Act {
	return []api.Act{
		{Kind: api.Kmalloc, N: 4},
		{Kind: api.Create, Name: "ob", N: 5, M: 1},
		{Kind: api.New, Name: "ob"},
		{Kind: api.Pages},
		{Kind: api.Pages, N: 1},
	}
}

func begun() []api.Answer { return []api.Answer{ok(1024), ok(0), ok(1088), ok(67), ok(70)} }

// wantLast: the answer to an act, behind those that begin; what is refused changes nothing.
func wantLast(t *testing.T, a api.Act, want api.Answer) api.System {
	t.Helper()
	if want.Code != api.OK {
		wantRefused(t, []api.Act{a}, want.Code)
		return api.System{}
	}
	return wantRun(t, plain(), append(begin(), a), append(begun(), want)...)
}

// wantRefused: so of acts that are all refused.
func wantRefused(t *testing.T, l []api.Act, e api.Errno) {
	t.Helper()
	for part := range slices.Chunk(l, 200) {
		s := wantRun(t, plain(), append(begin(), part...), append(begun(), slices.Repeat([]api.Answer{no(e)}, len(part))...)...)
		wantSystem(t, fmt.Sprintf("what is refused, as %+v", part[0]), s, api.OK, wantRun(t, plain(), begin(), begun()...), api.OK)
	}
}

// P6.7: there is no such kind, whatever else is asked.
func TestRunKind(t *testing.T) {
	for _, k := range append([]int{0, -1, 16, 17, 100}, strange...) {
		wantLast(t, api.Act{Kind: k}, no(api.ErrKind))
		wantLast(t, api.Act{Kind: k, Cpu: -1, N: -1, M: 1 << 60, At: -1, Flags: -1, Name: "k4"}, no(api.ErrKind))
		wantLast(t, api.Act{Kind: k, N: 4, M: 1, At: 1024, Name: "k4"}, no(api.ErrKind))
	}
}

// P6.7: Pages are those of P4.3.
func TestRunPages(t *testing.T) {
	s := wantRun(t, plain(), begin(), begun()...)
	refused := map[api.Errno][]api.Act{}
	for _, cpu := range append([]int{0, 1, 2, -1}, strange...) {
		for _, n := range append([]int{0, 1, 2, 3, 4, 5, -1}, strange...) {
			for flags := -1; flags <= 17; flags++ {
				h, at, e := pages.Alloc(s.Heap, cpu, n, flags)
				a := api.Act{Kind: api.Pages, Cpu: cpu, N: n, Flags: flags, M: 3, At: 5, Name: "k4"}
				if e != api.OK {
					refused[e] = append(refused[e], a)
					continue
				}
				want := clone(s)
				want.Heap = h
				wantSystem(t, "Pages", wantLast(t, a, ok(at)), api.OK, want, api.OK)
			}
		}
	}
	for e, l := range refused {
		wantRefused(t, l, e)
	}
	if len(refused) != 3 {
		t.Errorf("%d errors, want ErrRange, ErrForm and ErrRoom", len(refused))
	}
}

// P6.7: Give takes whole pages back by their first page, no slabs, and nothing else.
func TestRunGive(t *testing.T) {
	s := wantRun(t, plain(), begin(), begun()...)
	for at := -20; at < 300; at++ {
		want := api.ErrNone
		switch {
		case at < 0 || at > 255:
			want = api.ErrRange
		case at == 67 || at == 70:
			want = api.OK
		}
		for cpu := range 2 {
			x := wantLast(t, api.Act{Kind: api.Give, Cpu: cpu, At: at, N: 1, M: 1}, no(want))
			if want == api.OK {
				y := clone(s)
				y.Heap, _ = pages.Free(s.Heap, cpu, at)
				wantSystem(t, "Give", x, api.OK, y, api.OK)
			}
		}
	}
	for _, at := range append([]int{-1, 256}, strange...) {
		wantLast(t, api.Act{Kind: api.Give, At: at}, no(api.ErrRange))
		wantLast(t, api.Act{Kind: api.Give, At: at, Cpu: -1}, no(api.ErrRange))
		wantLast(t, api.Act{Kind: api.Give, At: 70, Cpu: at}, no(api.ErrRange))
	}
	wantLast(t, api.Act{Kind: api.Give, At: 70, Cpu: 2}, no(api.ErrRange))
	wantLast(t, api.Act{Kind: api.Give, At: 64, Cpu: 2}, no(api.ErrNone))
}

// P6.7: what is done to caches is what P5.5 to P5.10 say.
func TestRunCaches(t *testing.T) {
	s := wantRun(t, plain(), begin(), begun()...)
	check := func(a api.Act, want api.System, r api.Answer) {
		t.Helper()
		x := wantLast(t, a, r)
		if r.Code == api.OK {
			wantSystem(t, fmt.Sprintf("%+v", a), x, api.OK, want, api.OK)
		}
	}
	for _, n := range []string{"ob", "k4", "k1", "new", "", "NEW", "knew"} {
		for _, v := range append([]int{0, 1, 4, 5, 20, 64, 65, 256, 257}, strange...) {
			for _, w := range []int{0, 1, 2, 3, -1} {
				x, e := slab.Create(s, n, v, w)
				check(api.Act{Kind: api.Create, Name: n, N: v, M: w, Cpu: -1}, x, no(e))
				x, l, e := slab.Bulk(s, n, w, v)
				check(api.Act{Kind: api.Bulk, Name: n, Cpu: w, N: v}, x, api.Answer{Code: e, List: l})
			}
		}
		for cpu := -1; cpu < 4; cpu++ {
			x, at, e := slab.Alloc(s, n, cpu)
			check(api.Act{Kind: api.New, Name: n, Cpu: cpu, N: -5}, x, api.Answer{Code: e, N: at})
			for _, at := range []int{1024, 1028, 1088, 1093, 1072, 1120, -1} {
				x, e := slab.Free(s, n, cpu, at)
				check(api.Act{Kind: api.Drop, Name: n, Cpu: cpu, At: at}, x, no(e))
			}
		}
		x, e := slab.Shrink(s, n)
		check(api.Act{Kind: api.Shrink, Name: n, Cpu: 99}, x, no(e))
	}
}

// P6.7: no name that begins with k is destroyed, whatever it is; all others as P5.11 says.
func TestRunDestroy(t *testing.T) {
	for _, n := range []string{"k1", "k2", "k4", "k8", "k16", "k32", "k", "kx", "k!", "knownname", "k3"} {
		wantLast(t, api.Act{Kind: api.Destroy, Name: n}, no(api.ErrForm))
	}
	for _, n := range []string{"", "o", "K4", "xk4", "4", "ob2"} {
		wantLast(t, api.Act{Kind: api.Destroy, Name: n}, no(api.ErrNone))
	}
	wantLast(t, api.Act{Kind: api.Destroy, Name: "ob"}, no(api.ErrBusy))
	s := wantRun(t, plain(), []api.Act{
		{Kind: api.Create, Name: "kx", N: 6, M: 1},
		{Kind: api.Create, Name: "six", N: 6, M: 1},
		{Kind: api.Create, Name: "four", N: 4, M: 1},
		{Kind: api.New, Name: "four"},
		{Kind: api.Destroy, Name: "kx"},
		{Kind: api.Destroy, Name: "six"},
		{Kind: api.Destroy, Name: "four"},
		{Kind: api.Destroy, Name: "kx"},
		{Kind: api.Create, Name: "big", N: 64, M: 1},
		{Kind: api.Destroy, Name: "big"},
	}, ok(0), ok(0), ok(0), ok(1024), no(api.ErrForm), ok(0), ok(0), no(api.ErrForm), ok(0), ok(0))
	var names []string
	for _, c := range s.Caches {
		names = append(names, c.Names...)
	}
	if !slices.Equal(names, []string{"k1", "k2", "k4", "k8", "k16", "k32", "kx"}) {
		t.Errorf("the caches are %v", names)
	}
}

// P6.7: words by their number, as P6.3 to P6.6 say.
func TestRunNumbers(t *testing.T) {
	s := wantRun(t, plain(), begin(), begun()...)
	check := func(a api.Act, want api.System, r api.Answer) {
		t.Helper()
		x := wantLast(t, a, r)
		if r.Code == api.OK {
			wantSystem(t, fmt.Sprintf("%+v", a), x, api.OK, want, api.OK)
		}
	}
	numbers := append([]int{0, 1, 4, 5, 16, 17, 32, 33, 40, 100, 256, 257, -1}, strange...)
	for cpu := -1; cpu < 4; cpu++ {
		for _, n := range numbers {
			x, at, e := kmem.Alloc(s, cpu, n)
			check(api.Act{Kind: api.Kmalloc, Cpu: cpu, N: n, M: 2, At: 3}, x, api.Answer{Code: e, N: at})
		}
		for _, addr := range append([]int{1024, 1028, 1072, 1088, 1120, 1136, 5, -1, 4096}, strange...) {
			x, e := kmem.Free(s, cpu, addr)
			check(api.Act{Kind: api.Kfree, Cpu: cpu, At: addr, N: 3}, x, no(e))
			n, e := kmem.Size(s, addr)
			check(api.Act{Kind: api.Ksize, Cpu: cpu, At: addr}, s, api.Answer{Code: e, N: n})
			for _, n := range numbers {
				x, at, e := kmem.Resize(s, cpu, addr, n)
				check(api.Act{Kind: api.Krealloc, Cpu: cpu, At: addr, N: n}, x, api.Answer{Code: e, N: at})
			}
		}
	}
	want := clone(s)
	want.Heap, _ = pages.Drain(s.Heap)
	if len(s.Heap.Lists) == 0 || len(want.Heap.Lists) != 0 {
		t.Errorf("lists ahead and behind: %v, %v", s.Heap.Lists, want.Heap.Lists)
	}
	check(api.Act{Kind: api.Drain, Cpu: -1, N: -1, At: -1, Flags: -1}, want, ok(0))
}

// isGiven: is a word given away by the acts that begin?
func isGiven(at int) bool {
	for _, r := range [][2]int{{1024, 1028}, {1088, 1093}, {1072, 1088}, {1120, 1152}} {
		if at >= r[0] && at < r[1] {
			return true
		}
	}
	return false
}

// P6.7: Read and Write, at all addresses near to what is given away, and far from it.
func TestRunWords(t *testing.T) {
	s := wantRun(t, plain(), begin(), begun()...)
	// 1118 and 1119 are in a slab, and in none of its objects.
	places := append([]int{0, 1, 15, 16, 500, 4095, 4096, 4097, -1, -2, -16}, strange...)
	for at := 1000; at < 1200; at++ {
		places = append(places, at)
	}
	var none, far []api.Act
	for _, at := range places {
		read := api.Act{Kind: api.Read, At: at, M: 1 << 50}
		for _, m := range append([]int{0, 5, -1, 1 << 40, -1 << 40, 1<<40 + 1, -1<<40 - 1}, strange...) {
			write := api.Act{Kind: api.Write, At: at, M: m, Cpu: 7, N: -4}
			switch {
			case !isGiven(at):
				none = append(none, write, read)
			case m > 1<<40 || m < -1<<40:
				far = append(far, write)
			default:
				want := clone(s)
				want.Words[at] = m
				x := wantRun(t, plain(), append(begin(), read, write, read), append(begun(), ok(s.Words[at]), ok(0), ok(m))...)
				wantSystem(t, "Write", x, api.OK, want, api.OK)
			}
		}
	}
	wantRefused(t, none, api.ErrNone)
	wantRefused(t, far, api.ErrRange)
}

// P6.7: a word is not to be read or written any more, once it is given back.
func TestRunWordsBack(t *testing.T) {
	for _, c := range []struct {
		at   int
		back api.Act
	}{
		{1025, api.Act{Kind: api.Kfree, At: 1024}},
		{1027, api.Act{Kind: api.Drop, Name: "k4", At: 1024}},
		{1092, api.Act{Kind: api.Drop, Name: "ob", At: 1088}},
		{1072, api.Act{Kind: api.Give, At: 67}},
		{1151, api.Act{Kind: api.Give, At: 70}},
		{1140, api.Act{Kind: api.Kfree, At: 1120}},
		{1026, api.Act{Kind: api.Krealloc, At: 1024, N: 33}},
	} {
		l, _, e := kmem.Run(plain(), append(begin(), c.back, api.Act{Kind: api.Read, At: c.at}, api.Act{Kind: api.Write, At: c.at, M: 1}))
		if e != api.OK || len(l) != 8 || l[5].Code != api.OK || !sameAnswer(l[6], no(api.ErrNone)) || !sameAnswer(l[7], no(api.ErrNone)) {
			t.Errorf("behind %+v: %+v, %d", c.back, l, int(e))
		}
	}
}

// P6.7: a system of both zones, with pages held back and reserved ones.
func TestRunZones(t *testing.T) {
	u := api.Setup{Boot: api.Boot{Memory: []api.Region{{From: 0, Size: 20}, {From: 64, Size: 8}}, Reserved: []api.Region{{From: 0, Size: 1}}}, Split: 64, Min: 2, Cpus: 1}
	s := wantRun(t, u, []api.Act{
		{Kind: api.Pages, N: 2},                   // 64 to 67: four more are free, two of them are held back
		{Kind: api.Kmalloc, N: 33},                // of the first zone, that holds 8 pages back
		{Kind: api.Kmalloc, N: 33},                // 11 pages would be left
		{Kind: api.Kmalloc, N: 33},                // seven are too few
		{Kind: api.Pages, N: 2, Flags: api.Low},   // not too few with Low
		{Kind: api.Pages, N: 4, Flags: api.Low},   // but that is
		{Kind: api.Kmalloc, N: 2},                 // a single page of the second zone, and one more for the list
		{Kind: api.Write, At: 16 * 64, M: 1 << 9}, // the whole pages' word
		{Kind: api.Read, At: 16 * 64},
	}, ok(64), ok(16*8), ok(16*12), no(api.ErrRoom), ok(4), no(api.ErrRoom), ok(16*68), ok(0), ok(1<<9))
	if want := blocks(4, 2, 0, 8, 2, 0, 12, 2, 0, 64, 2, 0, 68, 0, 0); !slices.Equal(s.Heap.Live, want) {
		t.Errorf("Live: %v, want %v", s.Heap.Live, want)
	}
}
