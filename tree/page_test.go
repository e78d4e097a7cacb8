package tree

import (
	"bytes"
	"math/rand"
	"testing"

	"concierge/api"
)

// P8.4

// wellFormed fails unless the pages are as the chapter says, looked through page by page, and the pairs are in order.
func wellFormed(t *testing.T, what string, tree *Tree) {
	t.Helper()
	if !tree.Sound() {
		t.Fatalf("%s: not sound", what)
	}
	h, n := tree.Height(), tree.Len()
	fewest, most := 0, 8
	if h > 1 {
		fewest = 2
	}
	for range h - 1 {
		fewest, most = 4*fewest, 8*most
	}
	if h < 1 || n < fewest || n > most {
		t.Fatalf("%s: %d pairs at a height of %d", what, n, h)
	}
	var pairs []api.Pair
	var look func(p page, level int)
	look = func(p page, level int) {
		least := 4
		switch {
		case level > 1:
		case h == 1:
			least = 0
		default:
			least = 2
		}
		elements := len(p.kids)
		if level == h {
			elements = len(p.pairs)
		}
		if elements < least || elements > 8 || elements != len(p.kids)+len(p.pairs) {
			t.Fatalf("%s: %d kids and %d pairs on level %d of %d", what, len(p.kids), len(p.pairs), level, h)
		}
		at := len(pairs)
		pairs = append(pairs, p.pairs...)
		for _, k := range p.kids {
			look(k, level+1)
		}
		if at < len(pairs) && !bytes.Equal(p.first, pairs[at].Key) {
			t.Fatalf("%s: the first key is %q, not %q", what, p.first, pairs[at].Key)
		}
	}
	look(tree.root, 1)
	for i := 1; i < len(pairs); i++ {
		if bytes.Compare(pairs[i-1].Key, pairs[i].Key) >= 0 {
			t.Fatalf("%s: %q ahead of %q", what, pairs[i-1].Key, pairs[i].Key)
		}
	}
	if len(pairs) != n {
		t.Fatalf("%s: %d pairs, not %d", what, n, len(pairs))
	}
}

func TestHeight(t *testing.T) {
	tree := New(enough)
	for n := range 9 {
		if tree.Height() != 1 { // a page of 8 pairs is not too full
			t.Errorf("%d pairs: %d", n, tree.Height())
		}
		puts(t, tree, number(n), "")
	}
	if tree.Height() != 2 {
		t.Errorf("9 pairs: %d", tree.Height())
	}
	for n := 9; n < 65; n++ {
		puts(t, tree, number(n), "")
		wellFormed(t, "growing", tree)
	}
	if tree.Height() < 3 {
		t.Errorf("65 pairs: %d", tree.Height())
	}
	for n := range 58 {
		tree.Delete([]byte(number(n)))
		wellFormed(t, "shrinking", tree)
	}
	if tree.Len() != 7 || tree.Height() != 1 {
		t.Errorf("%d pairs: %d", tree.Len(), tree.Height())
	}
	for n := range 65 {
		tree.Delete([]byte(number(n)))
		wellFormed(t, "shrinking", tree)
	}
	if tree.Len() != 0 || tree.Height() != 1 {
		t.Errorf("%d pairs: %d", tree.Len(), tree.Height())
	}
}

// Keys come and go in several orders, and the pages are looked through after each.
func TestPagesStayAsTheyMust(t *testing.T) {
	const n = 700
	orders := [][]int{make([]int, n), make([]int, n), make([]int, n)}
	for i := range n {
		orders[0][i], orders[1][i] = i, n-1-i
		orders[2][i] = i / 2 // from both ends
		if i%2 > 0 {
			orders[2][i] = n - 1 - i/2
		}
	}
	for seed := range int64(3) {
		orders = append(orders, rand.New(rand.NewSource(seed)).Perm(n))
	}
	for a, coming := range orders {
		for b, going := range orders {
			tree := New(enough)
			for _, i := range coming {
				puts(t, tree, number(i), "")
				if b == 0 {
					wellFormed(t, "coming", tree)
				}
			}
			if tree.Height() < 4 {
				t.Fatalf("a height of %d", tree.Height())
			}
			for _, i := range going {
				if !tree.Delete([]byte(number(i))) || tree.Delete([]byte(number(i))) {
					t.Fatalf("%d, %d: %d", a, b, i)
				}
				wellFormed(t, "going", tree)
			}
			if tree.Len() != 0 || tree.Size() != 0 || tree.Height() != 1 {
				t.Fatalf("%d, %d: %d pairs are left", a, b, tree.Len())
			}
		}
	}
}

// A value that is set again changes no page but its own.
func TestNewValuesKeepThePages(t *testing.T) {
	tree := New(enough)
	m := model{}
	for i := range 500 {
		puts(t, tree, number(i), "")
	}
	height := tree.Height()
	for i := range 500 {
		puts(t, tree, number(i), "new")
		m[number(i)] = "new"
	}
	has(t, "new values", tree, m)
	if tree.Height() != height {
		t.Errorf("a height of %d, not %d", tree.Height(), height)
	}
}

// pages returns n leaves with so many pairs each.
func pages(n, pairs int) []page {
	var l []page
	for i := range n {
		var of []api.Pair
		for k := range pairs {
			of = append(of, api.Pair{Key: []byte(number(i*pairs + k))})
		}
		l = append(l, leaf(of))
	}
	return l
}

// Sound tells pages that are too full, not full enough or at different depths, which only a fault could make.
func TestSound(t *testing.T) {
	two := above(pages(4, 4))
	beside := func(l []page, p page) []page { return append(l, p) }
	examples := []struct {
		what  string
		root  page
		sound bool
	}{
		{"no pairs", page{}, true},
		{"a pair", pages(1, 1)[0], true},
		{"a full root", pages(1, 8)[0], true},
		{"a root that is too full", pages(1, 9)[0], false},
		{"a root with one kid", above(pages(1, 8)), false},
		{"two kids", above(pages(2, 4)), true},
		{"eight kids", above(pages(8, 8)), true},
		{"nine kids", above(pages(9, 8)), false},
		{"kids that are not full enough", above(pages(2, 3)), false},
		{"one of them", above(beside(pages(2, 8), pages(1, 3)[0])), false},
		{"the first of them", above(beside(pages(1, 3), pages(1, 8)[0])), false},
		{"kids that are too full", above(pages(2, 9)), false},
		{"kids without pairs", above([]page{{}, {}}), false},
		{"three levels", above([]page{two, two}), true},
		{"three full levels", above([]page{two, above(pages(8, 8))}), true},
		{"three kids below a kid", above([]page{two, above(pages(3, 8))}), false},
		{"nine kids below a kid", above([]page{two, above(pages(9, 8))}), false},
		{"a page that is not full enough on the last level", above([]page{two, above(beside(pages(4, 4), pages(1, 3)[0]))}), false},
		{"a leaf that is too high", above([]page{two, pages(1, 8)[0]}), false},
		{"a leaf that is too low", above([]page{pages(1, 8)[0], two}), false},
		{"one level more on one side", above([]page{two, above([]page{two, two, two, two})}), false},
	}
	for _, e := range examples {
		if sound := (&Tree{root: e.root, room: enough}).Sound(); sound != e.sound {
			t.Errorf("%s: %v", e.what, sound)
		}
	}
}

// What was deleted or replaced is not kept in any page.
func TestNothingGoneIsKept(t *testing.T) {
	tree := New(enough)
	for i := range 200 {
		puts(t, tree, number(i), "old")
	}
	for i := range 200 {
		if i%3 > 0 {
			tree.Delete([]byte(number(i)))
		} else {
			puts(t, tree, number(i), "new")
		}
	}
	var look func(p page)
	look = func(p page) {
		if p.first[3]%3 > 0 {
			t.Errorf("the key %x is kept", p.first)
		}
		for _, x := range p.pairs[:cap(p.pairs)] {
			if x.Key != nil && (x.Key[3]%3 > 0 || string(x.Value) != "new") {
				t.Errorf("%x, %q is kept", x.Key, x.Value)
			}
		}
		for _, k := range p.kids[:cap(p.kids)] {
			if k.count() > 0 {
				look(k)
			}
		}
	}
	look(tree.root)
}
