package pages

import (
	"slices"

	"paddock/api"
	"paddock/buddy"
)

// marks tell which pages are in a place: a Free block, a list or a Live block.
type marks [api.MaxPages]bool

// add pages that are not in a place yet; else false is told.
func (m *marks) add(at, size int) bool {
	for i := range size {
		if m[at+i] {
			return false
		}
		m[at+i] = true
	}
	return true
}

// addBlocks: so of the pages of blocks.
func (m *marks) addBlocks(l []api.Block) bool {
	for _, b := range l {
		if !m.add(b.At, 1<<b.Order) {
			return false
		}
	}
	return true
}

func isMin(n int) bool { return n >= 0 && n <= api.MaxPages }

func areCpus(n int) bool { return n >= 1 && n <= api.MaxCpus }

func isCpu(h api.Heap, cpu int) bool { return cpu >= 0 && cpu < h.Cpus }

func isOrder(order int) bool { return order >= 0 && order <= api.MaxOrder }

func isType(t int) bool { return t >= 0 && t < api.Types }

func isPage(z api.Zone, at int) bool { return at >= z.From && at < z.To }

// zonesMayBe: are there two, one behind the other, of all pages that there can be?
func zonesMayBe(l []api.Zone) bool {
	if len(l) != 2 || buddy.Check(l[0]) != api.OK || buddy.Check(l[1]) != api.OK {
		return false
	}
	return l[0].From == 0 && l[1].From == l[0].To && l[1].To == api.MaxPages
}

// minsMayBe: is there one for each zone?
func minsMayBe(l []int) bool { return len(l) == 2 && isMin(l[0]) && isMin(l[1]) }

// listsMayBe: are the lists as they should be, each by itself and in their order? The zones may be.
func listsMayBe(h api.Heap) bool {
	for i, l := range h.Lists {
		if !listMayBe(h, l) {
			return false
		}
		if i > 0 && byOwner(h.Lists[i-1], l) >= 0 {
			return false
		}
	}
	return true
}

func listMayBe(h api.Heap, l api.List) bool {
	if !isCpu(h, l.Cpu) || l.Zone < 0 || l.Zone >= len(h.Zones) || !isType(l.Type) {
		return false
	}
	if len(l.Pages) < 1 || len(l.Pages) > api.High {
		return false
	}
	return !slices.ContainsFunc(l.Pages, func(at int) bool { return !isPage(h.Zones[l.Zone], at) })
}

// liveMayBe: are the blocks as they should be, each by itself and in their order?
func liveMayBe(l []api.Block) bool {
	least := 0
	for _, b := range l {
		if !isOrder(b.Order) || !isType(b.Type) || b.At < least || b.At >= api.MaxPages || b.At%(1<<b.Order) != 0 {
			return false
		}
		least = b.At + 1
	}
	return true
}

// areApart: is no page in two places? All of these are pages that there can be.
func areApart(h api.Heap) bool {
	var m marks
	for _, z := range h.Zones {
		if !m.addBlocks(z.Free) {
			return false
		}
	}
	for _, l := range h.Lists {
		for _, at := range l.Pages {
			if !m.add(at, 1) {
				return false
			}
		}
	}
	return m.addBlocks(h.Live)
}
