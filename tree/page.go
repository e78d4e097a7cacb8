package tree

import (
	"bytes"
	"slices"
	"sort"

	"concierge/api"
)

const (
	half      = api.Fan / 2 // what a page that is not the root has at least
	leastKids = 2           // what a root that refers to pages has at least
)

// page has pairs or refers to pages, its kids, either in the order of their keys. The zero page is one without pairs. What a page has is never changed: a change makes new pages, from the leaf up to the root, so that first always tells what is below.
type page struct {
	first []byte // the first key of all pairs that are reached through the page, kept so that a search need not go down for it
	pairs []api.Pair
	kids  []page
}

// leaf returns a page that has pairs.
func leaf(pairs []api.Pair) page {
	if len(pairs) == 0 {
		return page{}
	}
	return page{first: pairs[0].Key, pairs: pairs}
}

// above returns a page that refers to one or more kids.
func above(kids []page) page {
	return page{first: kids[0].first, kids: kids}
}

// top returns the root of a tree that the pages are reached through.
func top(pages []page) page {
	if len(pages) == 1 {
		return pages[0]
	}
	return above(pages)
}

// isLeaf reports whether the page has pairs, and not kids.
func (p page) isLeaf() bool {
	return len(p.kids) == 0
}

// count returns how much the page has, of whichever it has.
func (p page) count() int {
	return len(p.pairs) + len(p.kids)
}

// place returns the number of the first pair of a leaf whose key is not less than a key, and whether it is that key.
func (p page) place(key []byte) (int, bool) {
	i := sort.Search(len(p.pairs), func(i int) bool {
		return bytes.Compare(p.pairs[i].Key, key) >= 0
	})
	return i, i < len(p.pairs) && bytes.Equal(p.pairs[i].Key, key)
}

// under returns the number of the kid that a key belongs to: the last one that begins with the key or with a lesser one. The first kid is not asked, since a key ahead of all belongs to it too.
func (p page) under(key []byte) int {
	return sort.Search(len(p.kids)-1, func(i int) bool {
		return bytes.Compare(p.kids[i+1].first, key) > 0
	})
}

// find returns the pair of a key, and whether there is one.
func (p page) find(key []byte) (api.Pair, bool) {
	for !p.isLeaf() {
		p = p.kids[p.under(key)]
	}
	i, has := p.place(key)
	if !has {
		return api.Pair{}, false
	}
	return p.pairs[i], true
}

// each gives the pairs from a key on to see, in order, until see returns false; it reports whether see never did.
func (p page) each(from []byte, see func(api.Pair) bool) bool {
	if p.isLeaf() {
		i, _ := p.place(from)
		for _, x := range p.pairs[i:] {
			if !see(x) {
				return false
			}
		}
		return true
	}
	for _, k := range p.kids[p.under(from):] {
		if !k.each(from, see) {
			return false
		}
	}
	return true
}

// with returns the page with a pair, which takes the place of the one with the same key. It can be too full by one.
func (p page) with(x api.Pair) page {
	if p.isLeaf() {
		i, has := p.place(x.Key)
		behind := i
		if has {
			behind++
		}
		return leaf(slices.Concat(p.pairs[:i], []api.Pair{x}, p.pairs[behind:]))
	}
	i := p.under(x.Key)
	return p.replace(i, i+1, p.kids[i].with(x))
}

// without returns the page without the pair of a key, which it must reach. It can be not full enough by one.
func (p page) without(key []byte) page {
	if p.isLeaf() {
		i, _ := p.place(key)
		return leaf(slices.Concat(p.pairs[:i], p.pairs[i+1:]))
	}
	i := p.under(key)
	k := p.kids[i].without(key)
	switch {
	case k.count() >= half:
		return p.replace(i, i+1, k)
	case i > 0:
		return p.replace(i-1, i+1, joined(p.kids[i-1], k))
	default:
		return p.replace(i, i+2, joined(k, p.kids[i+1]))
	}
}

// replace returns the page with k, or its parts, in place of the kids from one number to ahead of another one.
func (p page) replace(from, to int, k page) page {
	return above(slices.Concat(p.kids[:from], k.parts(), p.kids[to:]))
}

// joined returns a page that has what two neighbors have. It can be too full.
func joined(a, b page) page {
	if a.isLeaf() {
		return leaf(slices.Concat(a.pairs, b.pairs))
	}
	return above(slices.Concat(a.kids, b.kids))
}

// parts returns the page, or, if it is too full, two that have half of it each, in memory of their own, so that neither keeps what the other one loses.
func (p page) parts() []page {
	middle := p.count() / 2
	switch {
	case p.count() <= api.Fan:
		return []page{p}
	case p.isLeaf():
		return []page{leaf(slices.Clone(p.pairs[:middle])), leaf(slices.Clone(p.pairs[middle:]))}
	default:
		return []page{above(slices.Clone(p.kids[:middle])), above(slices.Clone(p.kids[middle:]))}
	}
}

// height returns the number of levels from the page down.
func (p page) height() int {
	h := 1
	for !p.isLeaf() {
		p = p.kids[0]
		h++
	}
	return h
}

// sound reports whether the page has at least so much and at most Fan, each one below it at least half, and all leaves are on the last of so many levels.
func (p page) sound(height, least int) bool {
	if p.count() < least || p.count() > api.Fan || p.isLeaf() != (height == 1) {
		return false
	}
	for _, k := range p.kids {
		if !k.sound(height-1, half) {
			return false
		}
	}
	return true
}

// copied returns a page with the same pairs that shares no memory with this one.
func (p page) copied() page {
	if p.isLeaf() {
		pairs := make([]api.Pair, len(p.pairs))
		for i, x := range p.pairs {
			pairs[i] = own(x)
		}
		return leaf(pairs)
	}
	kids := make([]page, len(p.kids))
	for i, k := range p.kids {
		kids[i] = k.copied()
	}
	return above(kids)
}

// own returns a pair with memory of its own.
func own(x api.Pair) api.Pair {
	return api.Pair{Key: copied(x.Key), Value: copied(x.Value)}
}

// copied returns bytes with memory of their own.
func copied(b []byte) []byte {
	c := make([]byte, len(b))
	copy(c, b)
	return c
}
