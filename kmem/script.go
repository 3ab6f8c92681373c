package kmem

import (
	"strings"

	"paddock/api"
	"paddock/pages"
	"paddock/ram"
	"paddock/slab"
)

// do an act: the system that comes of it, which counts only if it was not refused, and the answer.
func do(s api.System, a api.Act) (api.System, api.Answer) {
	switch a.Kind {
	case api.Pages:
		return tell(takePages(s, a.Cpu, a.N, a.Flags))
	case api.Give:
		return done(give(s, a.Cpu, a.At))
	case api.Create:
		return done(slab.Create(s, a.Name, a.N, a.M))
	case api.Destroy:
		return done(destroy(s, a.Name))
	case api.New:
		return tell(slab.Alloc(s, a.Name, a.Cpu))
	case api.Bulk:
		x, l, e := slab.Bulk(s, a.Name, a.Cpu, a.N)
		return x, api.Answer{Code: e, List: l}
	case api.Drop:
		return done(slab.Free(s, a.Name, a.Cpu, a.At))
	case api.Shrink:
		return done(slab.Shrink(s, a.Name))
	case api.Kmalloc:
		return tell(Alloc(s, a.Cpu, a.N))
	case api.Kfree:
		return done(Free(s, a.Cpu, a.At))
	case api.Ksize:
		n, e := Size(s, a.At)
		return tell(s, n, e)
	case api.Krealloc:
		return tell(Resize(s, a.Cpu, a.At, a.N))
	case api.Drain:
		return done(drain(s))
	case api.Read:
		v, e := read(s, a.At)
		return tell(s, v, e)
	case api.Write:
		return done(write(s, a.At, a.M))
	}
	return done(s, api.ErrKind)
}

// tell a number.
func tell(s api.System, n int, e api.Errno) (api.System, api.Answer) {
	return s, api.Answer{Code: e, N: n}
}

// done: there is nothing to tell.
func done(s api.System, e api.Errno) (api.System, api.Answer) { return tell(s, 0, e) }

// withHeap: a system with other pages, in memory of its own.
func withHeap(s api.System, h api.Heap) api.System {
	s.Heap = h
	return slab.Copy(s)
}

// takePages: a block of an order, for a processor, with flags: its first page.
func takePages(s api.System, cpu, order, flags int) (api.System, int, api.Errno) {
	h, page, e := pages.Alloc(s.Heap, cpu, order, flags)
	if e != api.OK {
		return api.System{}, 0, e
	}
	return withHeap(s, h), page, api.OK
}

// givePages: a block that begins at a page goes back, by a processor.
func givePages(s api.System, cpu, page int) (api.System, api.Errno) {
	h, e := pages.Free(s.Heap, cpu, page)
	if e != api.OK {
		return api.System{}, e
	}
	return withHeap(s, h), api.OK
}

// give whole pages that begin at a page back.
func give(s api.System, cpu, page int) (api.System, api.Errno) {
	if !isPage(page) {
		return api.System{}, api.ErrRange
	}
	if _, ok := wholePages(s, func(b api.Block) bool { return b.At == page }); !ok {
		return api.System{}, api.ErrNone
	}
	return givePages(s, cpu, page)
}

// destroy a cache's name, unless it is one of those that stay.
func destroy(s api.System, name string) (api.System, api.Errno) {
	if strings.HasPrefix(name, mark) {
		return api.System{}, api.ErrForm
	}
	return slab.Destroy(s, name)
}

// drain all lists of all processors.
func drain(s api.System) (api.System, api.Errno) {
	h, e := pages.Drain(s.Heap)
	if e != api.OK {
		return api.System{}, e
	}
	return withHeap(s, h), api.OK
}

// read a word that is given away.
func read(s api.System, at int) (int, api.Errno) {
	if !isUsed(s, at) {
		return 0, api.ErrNone
	}
	return ram.Load(s.Words, at)
}

// write a word that is given away.
func write(s api.System, at, v int) (api.System, api.Errno) {
	if !isUsed(s, at) {
		return api.System{}, api.ErrNone
	}
	if v < -api.MaxWord || v > api.MaxWord {
		return api.System{}, api.ErrRange
	}
	w, e := ram.Store(s.Words, at, v)
	if e != api.OK {
		return api.System{}, e
	}
	s.Words = w
	return s, api.OK
}
