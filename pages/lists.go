package pages

import (
	"cmp"
	"slices"

	"paddock/api"
	"paddock/buddy"
)

// byOwner: the order of lists.
func byOwner(a, b api.List) int {
	return cmp.Or(cmp.Compare(a.Cpu, b.Cpu), cmp.Compare(a.Zone, b.Zone), cmp.Compare(a.Type, b.Type))
}

// listAt: the place of the list with the owner of the one that is handed in, or where it would be; whether it is there.
func listAt(h api.Heap, owner api.List) (int, bool) {
	return slices.BinarySearchFunc(h.Lists, owner, byOwner)
}

// setList: it has these pages, which may be none; the heap and the pages are the caller's own.
func setList(h *api.Heap, owner api.List, pages []int) {
	i, ok := listAt(*h, owner)
	if ok {
		h.Lists = slices.Delete(h.Lists, i, i+1)
	}
	if len(pages) == 0 {
		return
	}
	owner.Pages = pages
	h.Lists = slices.Insert(h.Lists, i, owner)
}

// keep a single page on a list of a processor; the heap is the caller's own.
func keep(h *api.Heap, cpu, at int) api.Errno {
	zone := zoneOf(*h, at)
	t, e := buddy.TypeAt(h.Zones[zone], at)
	if e != api.OK {
		return e
	}
	owner := api.List{Cpu: cpu, Zone: zone, Type: t}
	var l []int
	if i, ok := listAt(*h, owner); ok {
		l = h.Lists[i].Pages
	}
	l = append(l, at)
	if len(l) > api.High {
		if e := backAll(h, l[:api.Batch]); e != api.OK {
			return e
		}
		l = slices.Delete(l, 0, api.Batch)
	}
	setList(h, owner, l)
	return api.OK
}

// backAll: single pages go to their zones, one by one; the heap is the caller's own.
func backAll(h *api.Heap, l []int) api.Errno {
	for _, at := range l {
		if e := back(h, at, 0); e != api.OK {
			return e
		}
	}
	return api.OK
}

// drain all lists; the heap is the caller's own.
func drain(h *api.Heap) api.Errno {
	for _, l := range h.Lists {
		if e := backAll(h, l.Pages); e != api.OK {
			return e
		}
	}
	h.Lists = nil
	return api.OK
}
