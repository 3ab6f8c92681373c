package kmem

import (
	"slices"
	"strconv"

	"paddock/api"
	"paddock/ram"
	"paddock/slab"
)

// sizes of the objects of the caches that there always are: they rise.
var sizes = [...]int{1, 2, 4, 8, 16, 32}

// mark: their names begin with it.
const mark = "k"

// asked: what was asked by number: an object of the cache with that name, or, without a name, whole pages from one on.
type asked struct {
	cache string
	page  int
	words int
}

func (x asked) isObject() bool { return x.cache != "" }

// nameOf the cache that there always is, with objects of such a size.
func nameOf(size int) string { return mark + strconv.Itoa(size) }

// wordsOf a block of an order.
func wordsOf(order int) int { return api.PageWords << order }

// firstWord of a page: its address.
func firstWord(page int) int { return page * api.PageWords }

func isCpu(s api.System, cpu int) bool { return cpu >= 0 && cpu < s.Heap.Cpus }

func isPage(at int) bool { return at >= 0 && at < api.MaxPages }

// orderFor so many words: the least one that has them.
func orderFor(n int) int {
	order := 0
	for wordsOf(order) < n {
		order++
	}
	return order
}

// cacheFor so many words: a name of the least cache, of those that are asked by number, whose objects have them; without one, no cache's name.
// A name tells no size: in a system that New did not begin its cache may have objects of other sizes.
func cacheFor(s api.System, n int) string {
	least, words := "", 0
	for _, c := range s.Caches {
		name, ok := askedName(c)
		if ok && c.Size >= n && (least == "" || c.Size < words) {
			least, words = name, c.Size
		}
	}
	return least
}

// askedAt: what was asked by number at an address, in a system that may be; false: nothing was.
func askedAt(s api.System, addr int) (asked, bool) {
	if i, _, e := slab.Find(s, addr); e == api.OK {
		c := s.Caches[i]
		name, ok := askedName(c)
		return asked{cache: name, words: c.Size}, ok
	}
	b, ok := wholePages(s, func(b api.Block) bool { return firstWord(b.At) == addr })
	return asked{page: b.At, words: wordsOf(b.Order)}, ok
}

// askedName: the one by which a cache is one of those that there always are; false: it is none of them.
func askedName(c api.Cache) (string, bool) {
	for _, size := range sizes {
		if name := nameOf(size); slices.Contains(c.Names, name) {
			return name, true
		}
	}
	return "", false
}

// wholePages: the first ones, by their places, of which something holds; false: there are none.
func wholePages(s api.System, holds func(b api.Block) bool) (api.Block, bool) {
	i := slices.IndexFunc(s.Heap.Live, func(b api.Block) bool { return holds(b) && !isSlab(s, b) })
	if i < 0 {
		return api.Block{}, false
	}
	return s.Heap.Live[i], true
}

// isSlab: does a cache have its objects in a Live block? A slab begins where its block does.
func isSlab(s api.System, b api.Block) bool {
	return slices.ContainsFunc(s.Caches, func(c api.Cache) bool {
		return slices.ContainsFunc(c.Slabs, func(x api.Slab) bool { return x.At == b.At })
	})
}

// isUsed: is there a word at an address, in whole pages, or in an object that is not free?
func isUsed(s api.System, at int) bool {
	if _, e := ram.Load(s.Words, at); e != api.OK {
		return false
	}
	page := at / api.PageWords
	_, ok := wholePages(s, func(b api.Block) bool { return page >= b.At && page < b.At+1<<b.Order })
	return ok || isInObject(s, at)
}

// isInObject: is an address in an object that is not free?
func isInObject(s api.System, at int) bool {
	for _, c := range s.Caches {
		for _, b := range c.Slabs {
			behind := at - firstWord(b.At)
			if behind < 0 || behind >= c.Size*c.Per {
				continue
			}
			_, _, e := slab.Find(s, at-behind%c.Size)
			return e == api.OK
		}
	}
	return false
}
