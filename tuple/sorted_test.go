package tuple

import (
	"math/rand"
	"slices"
	"strconv"
	"testing"

	"concierge/api"
	"concierge/names"
)

// P13.4

// isSorted reports whether each tuple is Less than the next one.
func isSorted(l []api.Tuple) bool {
	for i := 1; i < len(l); i++ {
		if !names.Less(l[i-1], l[i]) {
			return false
		}
	}
	return true
}

// listed is tuples by their texts.
func listed(t *testing.T, texts ...string) []api.Tuple {
	t.Helper()
	var l []api.Tuple
	for _, text := range texts {
		l = append(l, named(t, text))
	}
	return l
}

// modelInsert puts tuples one by one to where they belong.
func modelInsert(l, more []api.Tuple) []api.Tuple {
	out := slices.Clone(l)
	for _, t := range more {
		i := 0
		for i < len(out) && names.Less(out[i], t) {
			i++
		}
		if i == len(out) || out[i] != t {
			out = slices.Insert(out, i, t)
		}
	}
	return out
}

// modelRemove takes tuples out one by one.
func modelRemove(l, gone []api.Tuple) []api.Tuple {
	out := slices.Clone(l)
	for _, t := range gone {
		out = slices.DeleteFunc(out, func(x api.Tuple) bool { return partsOf(x) == partsOf(t) })
	}
	return out
}

// modelOf takes all others out.
func modelOf(l []api.Tuple, o api.Object, rel string) []api.Tuple {
	return slices.DeleteFunc(slices.Clone(l), func(t api.Tuple) bool {
		return t.O.Type != o.Type || t.O.ID != o.ID || t.Rel != rel
	})
}

// checkLists holds the three calls against the models, and looks whether the lists are left as they are.
func checkLists(t *testing.T, l, other []api.Tuple) {
	t.Helper()
	before, beforeOther := slices.Clone(l), slices.Clone(other)
	for range 2 {
		inserted, removed := Insert(l, other), Remove(l, other)
		if isSorted(l) && (!slices.Equal(inserted, modelInsert(l, other)) || !isSorted(inserted)) {
			t.Fatalf("%q and %q: %q", l, other, inserted)
		}
		if isSorted(l) && (!slices.Equal(removed, modelRemove(l, other)) || !isSorted(removed)) {
			t.Fatalf("%q without %q: %q", l, other, removed)
		}
		for _, x := range append(slices.Clone(other), api.Tuple{}) {
			if got := Of(l, x.O, x.Rel); !slices.Equal(got, modelOf(l, x.O, x.Rel)) {
				t.Fatalf("%q of %q: %q", x.Rel, l, got)
			}
		}
		if !slices.Equal(l, before) || !slices.Equal(other, beforeOther) {
			t.Fatalf("%q %q were changed into %q %q", before, beforeOther, l, other)
		}
	}
}

func TestInsertExamples(t *testing.T) {
	for _, e := range []struct{ l, more, want []string }{
		{nil, nil, nil},
		{nil, []string{"a:1#r@u:x"}, []string{"a:1#r@u:x"}},
		{[]string{"a:1#r@u:x"}, nil, []string{"a:1#r@u:x"}},
		{[]string{"a:1#r@u:x"}, []string{"a:1#r@u:x"}, []string{"a:1#r@u:x"}},
		{nil, []string{"a:1#r@u:x", "a:1#r@u:x"}, []string{"a:1#r@u:x"}},
		{nil, []string{"b:1#r@u:x", "a:1#r@u:x", "b:1#r@u:x"}, []string{"a:1#r@u:x", "b:1#r@u:x"}},
		{[]string{"a:1#r@u:x", "c:1#r@u:x"}, []string{"d:1#r@u:x", "b:1#r@u:x"}, []string{"a:1#r@u:x", "b:1#r@u:x", "c:1#r@u:x", "d:1#r@u:x"}},
		{[]string{"b:1#r@u:x"}, []string{"a:1#r@u:x", "c:1#r@u:x", "b:1#r@u:x", "a:1#r@u:x"}, []string{"a:1#r@u:x", "b:1#r@u:x", "c:1#r@u:x"}},
		// Sorted by parts, which is another order than that of the texts.
		{[]string{"doc1:1#a@u:x"}, []string{"doc:1#a@u:x"}, []string{"doc:1#a@u:x", "doc1:1#a@u:x"}},
		{[]string{"doc:1#a@u:x#m"}, []string{"doc:1#a@u:x"}, []string{"doc:1#a@u:x", "doc:1#a@u:x#m"}},
		{[]string{"doc:2#a@u:x"}, []string{"doc:10#a@u:x"}, []string{"doc:10#a@u:x", "doc:2#a@u:x"}},
	} {
		l, more := listed(t, e.l...), listed(t, e.more...)
		if got := Insert(l, more); !slices.Equal(got, listed(t, e.want...)) {
			t.Errorf("%q and %q: %q", e.l, e.more, got)
		}
		checkLists(t, l, more)
	}
}

func TestRemoveExamples(t *testing.T) {
	l := listed(t, "a:1#r@u:x", "a:1#r@u:x#m", "b:1#r@u:x", "b:1#s@u:x")
	for _, e := range []struct{ gone, want []string }{
		{nil, []string{"a:1#r@u:x", "a:1#r@u:x#m", "b:1#r@u:x", "b:1#s@u:x"}},
		{[]string{"a:1#r@u:x"}, []string{"a:1#r@u:x#m", "b:1#r@u:x", "b:1#s@u:x"}},
		{[]string{"b:1#s@u:x", "a:1#r@u:x#m", "b:1#s@u:x"}, []string{"a:1#r@u:x", "b:1#r@u:x"}},
		{[]string{"a:2#r@u:x", "a:1#s@u:x", "a:1#r@u:y", "a:1#r@v:x", "c:1#r@u:x", "b:1#r@u:x#m"}, []string{"a:1#r@u:x", "a:1#r@u:x#m", "b:1#r@u:x", "b:1#s@u:x"}},
		{[]string{"b:1#s@u:x", "b:1#r@u:x", "a:1#r@u:x#m", "a:1#r@u:x"}, nil},
	} {
		gone := listed(t, e.gone...)
		if got := Remove(l, gone); !slices.Equal(got, listed(t, e.want...)) {
			t.Errorf("%q: %q", e.gone, got)
		}
		checkLists(t, l, gone)
	}
	if got := Remove(nil, l); len(got) != 0 {
		t.Errorf("%q", got)
	}
}

func TestOfExamples(t *testing.T) {
	l := listed(t, "a:1#r@u:x", "a:1#r@u:y", "a:1#r@u:y#m", "a:1#s@u:x", "a:2#r@u:x", "b:1#r@u:x")
	for _, e := range []struct {
		typ, id, rel string
		want         []api.Tuple
	}{
		{"a", "1", "r", l[:3]}, {"a", "1", "s", l[3:4]}, {"a", "2", "r", l[4:5]}, {"b", "1", "r", l[5:]},
		{"a", "2", "s", nil}, {"a", "1", "", nil}, {"a", "", "r", nil}, {"", "1", "r", nil}, {"", "", "", nil},
		{"a", "1", "R", nil}, {"a", "1", "r2", nil}, {"a", "11", "r", nil}, {"u", "x", "r", nil}, {"u", "y", "m", nil}, {"a", "1r", "", nil},
	} {
		if got := Of(l, object(e.typ, e.id), e.rel); !slices.Equal(got, e.want) {
			t.Errorf("%s:%s#%s: %q", e.typ, e.id, e.rel, got)
		}
	}
	if got := Of(nil, object("a", "1"), "r"); len(got) != 0 {
		t.Errorf("%q", got)
	}
}

// The order of l and what stands in it twice are kept, also where it is not sorted.
func TestOfKeepsTheOrder(t *testing.T) {
	l := listed(t, "a:1#r@u:z", "b:1#r@u:x", "a:1#r@u:x", "a:1#r@u:z", "a:0#r@u:x", "a:1#r@u:y")
	want := listed(t, "a:1#r@u:z", "a:1#r@u:x", "a:1#r@u:z", "a:1#r@u:y")
	if got := Of(l, object("a", "1"), "r"); !slices.Equal(got, want) {
		t.Errorf("%q", got)
	}
}

// randomLists are a list that is mostly sorted, and one that has some of the same tuples.
func randomLists(r *rand.Rand) (l, other []api.Tuple) {
	var all []api.Tuple
	for range r.Intn(30) {
		x := randomTuple(r)
		if r.Intn(10) == 0 {
			x.O.ID = []string{"", "\x00", "a\x00", "\xff", "a b"}[r.Intn(5)] // tuples that are not valid sort as well
		}
		all = append(all, x)
	}
	for _, x := range all {
		if r.Intn(2) == 0 {
			l = append(l, x)
		}
		for range r.Intn(3) {
			other = append(other, x)
		}
	}
	r.Shuffle(len(other), func(i, j int) { other[i], other[j] = other[j], other[i] })
	if r.Intn(10) > 0 {
		l = modelInsert(nil, l)
	}
	return l, other
}

func TestRandomLists(t *testing.T) {
	r := rand.New(rand.NewSource(9))
	for range 3000 {
		l, other := randomLists(r)
		checkLists(t, l, other)
		checkLists(t, other, l)
		checkLists(t, l, l)
	}
}

// Each part tells tuples apart, and each decides the order if those ahead of it are the same.
func TestListsByEachPart(t *testing.T) {
	for i := range 6 {
		p, q := plain(), plain()
		q[i] += "x"
		for k := i + 1; k < 6; k++ {
			p[k] += "y"
		}
		low, high := tupleOf(p), tupleOf(q)
		if got := Insert([]api.Tuple{high}, []api.Tuple{low, high}); !slices.Equal(got, []api.Tuple{low, high}) {
			t.Errorf("part %d: %q", i, got)
		}
		q = plain()
		q[i] += "x"
		if got := Remove([]api.Tuple{tupleOf(plain()), tupleOf(q)}, []api.Tuple{tupleOf(q)}); !slices.Equal(got, []api.Tuple{tupleOf(plain())}) {
			t.Errorf("part %d: %q", i, got)
		}
		of := Of([]api.Tuple{tupleOf(q)}, object("doc", "1"), "viewer")
		if (len(of) == 1) != (i > 2) {
			t.Errorf("part %d: %q", i, of)
		}
	}
}

// P1: long lists, sorted or not, are answered.
func TestLongLists(t *testing.T) {
	const size = 100000
	var sorted []api.Tuple
	for i := range size {
		sorted = append(sorted, tupleOf([6]string{"doc", strconv.Itoa(1000000 + i), "r", "user", "a", ""}))
	}
	backwards := slices.Clone(sorted)
	slices.Reverse(backwards)
	if got := Insert(sorted, backwards); !slices.Equal(got, sorted) {
		t.Error("the same tuples once more")
	}
	if got := Insert(nil, backwards); !slices.Equal(got, sorted) {
		t.Error("all tuples, backwards")
	}
	if got := Remove(sorted, backwards[:size/2]); !slices.Equal(got, sorted[:size/2]) {
		t.Error("half of the tuples")
	}
	if got := Of(backwards, sorted[7].O, "r"); !slices.Equal(got, sorted[7:8]) {
		t.Errorf("%q", got)
	}
	Insert(backwards, sorted)
	Remove(backwards, backwards)
	same := slices.Repeat(sorted[:1], size)
	Insert(same, same)
	if got := Of(same, same[0].O, "r"); len(got) != size {
		t.Errorf("%d", len(got))
	}
}

// R3: what is answered is changed without a change of the lists, and the other way round.
func TestListsAreNewMemory(t *testing.T) {
	l := append(make([]api.Tuple, 0, 20), listed(t, "a:1#r@u:x", "a:1#r@u:y", "a:1#s@u:x")...)
	more := append(make([]api.Tuple, 0, 20), listed(t, "a:0#r@u:x", "a:1#r@u:x#m")...)
	spare := [2]api.Tuple{l[:20][19], more[:20][19]}
	before, beforeMore := slices.Clone(l), slices.Clone(more)
	for name, call := range map[string]func() []api.Tuple{
		"Insert":            func() []api.Tuple { return Insert(l, more) },
		"Insert of nothing": func() []api.Tuple { return Insert(l, nil) },
		"Insert into none":  func() []api.Tuple { return Insert(nil, l) },
		"Remove":            func() []api.Tuple { return Remove(l, more) },
		"Remove of nothing": func() []api.Tuple { return Remove(l, nil) },
		"Of":                func() []api.Tuple { return Of(l, object("a", "1"), "r") },
	} {
		want := slices.Clone(call())
		got := call()
		clear(got)
		_ = append(got, tupleOf(plain()))
		if !slices.Equal(l, before) || !slices.Equal(more, beforeMore) || spare != [2]api.Tuple{l[:20][19], more[:20][19]} {
			t.Errorf("%s: the lists have changed with the answer", name)
		}
		got = call()
		clear(l)
		clear(more)
		if !slices.Equal(got, want) {
			t.Errorf("%s: the answer has changed with the lists", name)
		}
		copy(l, before)
		copy(more, beforeMore)
	}
}

func TestListedTextsAreNewMemory(t *testing.T) {
	s := string([]byte("text"))
	l := []api.Tuple{tupleOf([6]string{s, s, s, s, s, s})}
	for _, got := range [][]api.Tuple{Insert(l, nil), Insert(nil, l), Remove(l, nil), Of(l, l[0].O, l[0].Rel)} {
		if !slices.Equal(got, l) {
			t.Fatalf("%q", got)
		}
		for i, part := range partsOf(got[0]) {
			if within(part, s) {
				t.Errorf("part %d shares memory", i)
			}
		}
	}
}
