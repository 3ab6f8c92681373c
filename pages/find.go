package pages

import (
	"paddock/api"
	"paddock/buddy"
)

// shield: for each so many pages that the second zone spans one of the first zone is held back.
const shield = 32

const allFlags = api.Low | api.Moves | api.Reclaims | api.Urgent

// request of a block.
type request struct{ cpu, order, flags int }

// areFlags: are they some of those that there are, with one type at most?
func areFlags(flags int) bool {
	const both = api.Moves | api.Reclaims
	return flags&^allFlags == 0 && flags&both != both
}

func (r request) has(flag int) bool { return r.flags&flag != 0 }

// pageType: the type that is asked.
func (r request) pageType() int {
	switch {
	case r.has(api.Moves):
		return api.Movable
	case r.has(api.Reclaims):
		return api.Reclaim
	}
	return api.Fixed
}

// zones that are tried, in this order.
func (r request) zones() []int {
	if r.has(api.Low) {
		return []int{0}
	}
	return []int{1, 0}
}

// heldBack: how many pages of a zone must stay free.
func (r request) heldBack(h api.Heap, zone int) int {
	n := h.Mins[zone]
	if r.has(api.Urgent) {
		n /= 2
	}
	if zone == 0 && !r.has(api.Low) {
		n += (h.Zones[1].To - h.Zones[1].From) / shield
	}
	return n
}

// find a block in the zones, or on their lists; it is not there any more then. The heap is the caller's own.
func find(h *api.Heap, r request) (int, bool) {
	ask := take
	if r.order == 0 {
		ask = takeSingle
	}
	for _, zone := range r.zones() {
		if at, ok := ask(h, zone, r); ok {
			return at, true
		}
	}
	return 0, false
}

// take a block of a zone, if what is held back stays; the heap is the caller's own.
func take(h *api.Heap, zone int, r request) (int, bool) {
	free, e := buddy.Pages(h.Zones[zone])
	if e != api.OK || free-1<<r.order < r.heldBack(*h, zone) {
		return 0, false
	}
	z, at, e := buddy.Take(h.Zones[zone], r.order, r.pageType())
	if e != api.OK {
		return 0, false
	}
	h.Zones[zone] = z
	return at, true
}

// takeSingle: a page of the list, or one of the zone, with others that make up the list; the heap is the caller's own.
func takeSingle(h *api.Heap, zone int, r request) (int, bool) {
	owner := api.List{Cpu: r.cpu, Zone: zone, Type: r.pageType()}
	if i, ok := listAt(*h, owner); ok {
		l := h.Lists[i].Pages
		last := len(l) - 1
		at := l[last]
		setList(h, owner, l[:last])
		return at, true
	}
	at, ok := take(h, zone, r)
	if !ok {
		return 0, false
	}
	var more []int
	for range api.Batch - 1 {
		next, ok := take(h, zone, r)
		if !ok {
			break
		}
		more = append(more, next)
	}
	setList(h, owner, more)
	return at, true
}
