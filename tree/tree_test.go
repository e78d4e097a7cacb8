package tree

import (
	"bytes"
	"math"
	"math/rand"
	"slices"
	"strings"
	"testing"

	"concierge/api"
)

// The calls as the chapter lists them: another signature does not compile.
var (
	_ func(room int) *Tree                                = New
	_ func(t *Tree, key, value []byte) api.Errno          = (*Tree).Put
	_ func(t *Tree, key []byte) bool                      = (*Tree).Delete
	_ func(t *Tree, key []byte) ([]byte, bool)            = (*Tree).Get
	_ func(t *Tree, from, to []byte, most int) []api.Pair = (*Tree).Scan
	_ func(*Tree) int                                     = (*Tree).Len
	_ func(*Tree) int                                     = (*Tree).Size
	_ func(*Tree) int                                     = (*Tree).Height
	_ func(*Tree) bool                                    = (*Tree).Sound
	_ func(*Tree) *Tree                                   = (*Tree).Copy
	_ [api.Fan]byte                                       = [8]byte{}
)

const enough = math.MaxInt // a room that all pairs fit into

// model is what a tree must have, as a map.
type model map[string]string

func (m model) keys() []string {
	var l []string
	for k := range m {
		l = append(l, k)
	}
	slices.SortFunc(l, func(a, b string) int { return bytes.Compare([]byte(a), []byte(b)) })
	return l
}

func (m model) size() int {
	n := 0
	for k, v := range m {
		n += len(k) + len(v)
	}
	return n
}

// scan is P8.3 by its words.
func (m model) scan(from, to string, most int) []api.Pair {
	var l []api.Pair
	for _, k := range m.keys() {
		if len(l) < most && k >= from && (to == "" || k < to) {
			l = append(l, api.Pair{Key: []byte(k), Value: []byte(m[k])})
		}
	}
	return l
}

// put is P8.2 by its words.
func (m model) put(room int, key, value string) api.Errno {
	size := m.size() - len(m[key]) + len(value)
	if _, has := m[key]; !has {
		size += len(key)
	}
	if size > room {
		return api.ErrFull
	}
	m[key] = value
	return api.OK
}

// delete removes a key, and reports whether it was there.
func (m model) delete(key string) bool {
	_, has := m[key]
	delete(m, key)
	return has
}

func samePairs(a, b []api.Pair) bool {
	return slices.EqualFunc(a, b, func(x, y api.Pair) bool {
		return bytes.Equal(x.Key, y.Key) && bytes.Equal(x.Value, y.Value)
	})
}

// all returns all pairs of a tree.
func all(tree *Tree) []api.Pair {
	return tree.Scan(nil, nil, math.MaxInt)
}

func puts(t *testing.T, tree *Tree, key, value string) {
	t.Helper()
	if e := tree.Put([]byte(key), []byte(value)); e != api.OK {
		t.Fatalf("Put of %q, %q: %d", key, value, e)
	}
}

// of returns a tree with room for everything, and with the keys, each of which is its own value.
func of(t *testing.T, keys ...string) *Tree {
	t.Helper()
	tree := New(enough)
	for _, k := range keys {
		puts(t, tree, k, k)
	}
	return tree
}

// has fails unless the tree has what the model has, by all that can be asked.
func has(t *testing.T, what string, tree *Tree, m model) {
	t.Helper()
	if tree.Len() != len(m) || tree.Size() != m.size() {
		t.Fatalf("%s: %d pairs, %d bytes, not %d, %d", what, tree.Len(), tree.Size(), len(m), m.size())
	}
	if got, want := all(tree), m.scan("", "", math.MaxInt); !samePairs(got, want) {
		t.Fatalf("%s: %q, not %q", what, got, want)
	}
	for k, v := range m {
		if got, has := tree.Get([]byte(k)); !has || string(got) != v {
			t.Fatalf("%s: Get of %q is %q, %v, not %q", what, k, got, has, v)
		}
	}
	wellFormed(t, what, tree)
}

// words returns all words of the letters, up to a length.
func words(letters []byte, length int) []string {
	l := []string{""}
	for i := 0; i < len(l); i++ {
		if len(l[i]) < length {
			for _, c := range letters {
				l = append(l, l[i]+string([]byte{c}))
			}
		}
	}
	return l
}

// number returns n as a key of four bytes.
func number(n int) string {
	return string([]byte{byte(n >> 24), byte(n >> 16), byte(n >> 8), byte(n)})
}

// P8.1

func TestNew(t *testing.T) {
	for _, room := range []int{math.MinInt, -1, 0, 1, 100, math.MaxInt} {
		tree := New(room)
		has(t, "New", tree, model{})
		if got, ok := tree.Get(nil); ok || len(got) != 0 {
			t.Errorf("%d: Get is %q, %v", room, got, ok)
		}
		if tree.Delete(nil) || tree.Delete([]byte("a")) || tree.Height() != 1 || !tree.Sound() {
			t.Errorf("%d: not empty", room)
		}
	}
	a, b := New(9), New(9)
	puts(t, a, "a", "1")
	has(t, "another tree", b, model{})
}

func TestOrderIsByteByByte(t *testing.T) {
	want := []string{"", "\x00", "\x00\x00", "\x00\x00\xff", "\x00\x01", "\x00\xff", "\x01", "A", "a", "a\x00", "a\x00\x00", "aa", "ab", "b", "\x7f", "\x80", "\xc3\xa9", "\xfe", "\xff", "\xff\x00", "\xff\xff", "\xff\xff\x00"}
	for _, seed := range []int64{1, 2, 3} {
		tree := New(enough)
		for _, i := range rand.New(rand.NewSource(seed)).Perm(len(want)) {
			puts(t, tree, want[i], "")
		}
		for i, x := range all(tree) {
			if string(x.Key) != want[i] {
				t.Errorf("%d: %q, not %q", i, x.Key, want[i])
			}
		}
		if len(all(tree)) != len(want) {
			t.Error(len(all(tree)))
		}
	}
}

func TestLenAndSize(t *testing.T) {
	tree := New(enough)
	tells := func(what string, count, size int) {
		t.Helper()
		if tree.Len() != count || tree.Size() != size {
			t.Errorf("%s: %d pairs, %d bytes, not %d, %d", what, tree.Len(), tree.Size(), count, size)
		}
	}
	puts(t, tree, "ab", "123")
	tells("a pair", 1, 5)
	puts(t, tree, "c", "")
	tells("a key without bytes of a value", 2, 6)
	puts(t, tree, "", "4567")
	tells("the empty key", 3, 10)
	puts(t, tree, "ab", "1")
	tells("a lesser value", 3, 8)
	puts(t, tree, "ab", "1234")
	tells("a greater value", 3, 11)
	puts(t, tree, "ab", "9876")
	tells("another value", 3, 11)
	tree.Delete([]byte("x"))
	tells("a key that is not there", 3, 11)
	tree.Delete([]byte("ab"))
	tells("a key less", 2, 5)
	tree.Delete(nil)
	tells("the empty key less", 1, 1)
	tree.Delete([]byte("c"))
	tells("nothing", 0, 0)
}

// P8.2

// The chapter's examples.
func TestExamples(t *testing.T) {
	tree := New(10)
	puts(t, tree, "b", "1")
	puts(t, tree, "a", "22")
	want := []api.Pair{{Key: []byte("a"), Value: []byte("22")}, {Key: []byte("b"), Value: []byte("1")}}
	if got := tree.Scan(nil, nil, 9); !samePairs(got, want) || tree.Size() != 5 {
		t.Errorf("%q, %d", got, tree.Size())
	}
	if got := tree.Scan([]byte{}, []byte{}, 9); !samePairs(got, want) {
		t.Errorf("%q", got)
	}
	if e := tree.Put([]byte("c"), []byte("333333")); e != api.ErrFull {
		t.Error(e)
	}
	has(t, "ErrFull", tree, model{"a": "22", "b": "1"})
	puts(t, tree, "c", "3333")
	has(t, "full", tree, model{"a": "22", "b": "1", "c": "3333"})
}

func TestRoom(t *testing.T) {
	tree := New(10)
	m := model{}
	steps := []struct {
		key, value string
		e          api.Errno
	}{
		{"a", "1234567890", api.ErrFull}, // by one byte
		{"", "12345678901", api.ErrFull}, // the same, of the value alone
		{"12345678901", "", api.ErrFull}, // the same, of the key alone
		{"a", "123456789", api.OK},       // just so
		{"a", "1234567890", api.ErrFull}, // what the old value leaves is not enough
		{"a", "987654321", api.OK},       // the same number of bytes in a full tree
		{"b", "", api.ErrFull},
		{"", "", api.OK}, // no bytes fit into a full tree
		{"", "1", api.ErrFull},
		{"a", "12345678", api.OK},
		{"", "1", api.OK},
		{"b", "", api.ErrFull},
		{"a", "123456789", api.ErrFull}, // by one byte, though the key has had that many
		{"", "", api.OK},
		{"b", "", api.OK},
		{"a", "", api.OK},
		{"b", "23456789", api.OK},
		{"a", "1", api.ErrFull},
		{"b", "", api.OK},
		{"b", strings.Repeat("x", 1000), api.ErrFull},
	}
	for _, s := range steps {
		if e := tree.Put([]byte(s.key), []byte(s.value)); e != s.e || e != m.put(10, s.key, s.value) {
			t.Errorf("%q, %q: %d, not %d", s.key, s.value, e, s.e)
		}
		has(t, s.key+", "+s.value, tree, m)
	}
	tree.Delete([]byte("a"))
	puts(t, tree, "c", "12345678") // there is room again
	has(t, "room again", tree, model{"": "", "b": "", "c": "12345678"})
}

func TestNoRoom(t *testing.T) {
	for _, room := range []int{math.MinInt, -1000, -1} {
		tree := New(room)
		for _, k := range []string{"", "a"} {
			if e := tree.Put([]byte(k), nil); e != api.ErrFull {
				t.Errorf("%d: %q: %d", room, k, e)
			}
		}
		has(t, "no room", tree, model{})
	}
	tree := New(0)
	if tree.Put([]byte("a"), nil) != api.ErrFull || tree.Put(nil, []byte("a")) != api.ErrFull {
		t.Error("a byte fits into no room")
	}
	puts(t, tree, "", "")
	has(t, "no byte", tree, model{"": ""})
}

func TestGetAndDelete(t *testing.T) {
	tree := New(enough)
	puts(t, tree, "a", "1")
	puts(t, tree, "", "")
	puts(t, tree, "ab", "\x00\xff")
	for _, k := range []string{"b", "aa", "abc", "A", "\x00", "a\x00"} {
		if got, ok := tree.Get([]byte(k)); ok || len(got) != 0 {
			t.Errorf("%q: %q, %v", k, got, ok)
		}
		if tree.Delete([]byte(k)) {
			t.Errorf("%q was there", k)
		}
	}
	has(t, "as it was", tree, model{"a": "1", "": "", "ab": "\x00\xff"})
	for _, k := range [][]byte{nil, {}} {
		if got, ok := tree.Get(k); !ok || len(got) != 0 {
			t.Errorf("the empty key: %q, %v", got, ok)
		}
	}
	puts(t, tree, "", "x")
	if got, ok := tree.Get([]byte{}); !ok || string(got) != "x" {
		t.Errorf("the empty key: %q, %v", got, ok)
	}
	if !tree.Delete([]byte{}) || tree.Delete(nil) {
		t.Error("the empty key")
	}
	if !tree.Delete([]byte("a")) || tree.Delete([]byte("a")) {
		t.Error("a key is removed once")
	}
	has(t, "what is left", tree, model{"ab": "\x00\xff"})
	puts(t, tree, "a", "")
	has(t, "put again", tree, model{"ab": "\x00\xff", "a": ""})
}

// ErrFull in a tree of many pages leaves them as they are.
func TestFullTreeOfManyPages(t *testing.T) {
	m := model{}
	tree := New(600)
	for i := range 150 {
		puts(t, tree, number(2*i), "")
		m[number(2*i)] = ""
	}
	for i := range 301 {
		e := tree.Put([]byte(number(i)), []byte("x"))
		if e != api.ErrFull {
			t.Fatal(i, e)
		}
	}
	for i := range 150 {
		if e := tree.Put([]byte(number(2*i+1)), nil); e != api.ErrFull {
			t.Fatal(i, e)
		}
		puts(t, tree, number(2*i), "")
	}
	has(t, "full", tree, m)
}

// P8.3

func TestScan(t *testing.T) {
	letters := []byte{0, 'a', 255}
	from := words(letters, 3)
	sets := [][]string{nil, {""}, {"a"}, words(letters, 2), words([]byte{'a'}, 12), {"", "a", "\xff\xff\xff"}}
	for _, set := range sets {
		tree := of(t, set...)
		m := model{}
		for _, k := range set {
			m[k] = k
		}
		for _, a := range from {
			for _, b := range from {
				for _, most := range []int{math.MinInt, -1, 0, 1, 2, 5, len(set), len(set) + 1, math.MaxInt} {
					got, want := tree.Scan([]byte(a), []byte(b), most), m.scan(a, b, most)
					if !samePairs(got, want) {
						t.Fatalf("%q: from %q to %q, %d: %q, not %q", set, a, b, most, got, want)
					}
				}
			}
		}
		has(t, "scanned", tree, m)
	}
}

// from is among what is scanned, to is not, and what is ahead of from is not.
func TestScanEdges(t *testing.T) {
	tree := of(t, "a", "b", "c", "d")
	examples := []struct {
		from, to string
		most     int
		want     string
	}{
		{"b", "d", 9, "bc"},
		{"b", "b", 9, ""},
		{"c", "b", 9, ""},
		{"b", "", 9, "bcd"},
		{"", "c", 9, "ab"},
		{"", "", 9, "abcd"},
		{"", "", 4, "abcd"},
		{"", "", 3, "abc"},
		{"", "", 1, "a"},
		{"", "", 0, ""},
		{"", "", -1, ""},
		{"b", "d", 1, "b"},
		{"bb", "cc", 9, "c"},
		{"d", "", 9, "d"},
		{"dd", "", 9, ""},
		{"", "a", 9, ""},
		{"", "\x00", 9, ""},
		{"", "a\x00", 9, "a"},
		{"a\x00", "z", 9, "bcd"},
	}
	for _, e := range examples {
		got := ""
		for _, x := range tree.Scan([]byte(e.from), []byte(e.to), e.most) {
			got += string(x.Key)
		}
		if got != e.want {
			t.Errorf("from %q to %q, %d: %q, not %q", e.from, e.to, e.most, got, e.want)
		}
	}
}

// Each run of the numbers of a tree with several levels.
func TestScanOfManyPages(t *testing.T) {
	tree := New(enough)
	const n = 200
	for _, i := range rand.New(rand.NewSource(1)).Perm(n) {
		puts(t, tree, number(2*i), "")
	}
	for from := 0; from <= 2*n; from++ {
		for _, to := range []int{0, 1, from, from + 1, from + 2, from + 17, 2 * n, 2*n - 2} {
			for _, most := range []int{1, 8, n} {
				got := tree.Scan([]byte(number(from)), []byte(number(to)), most)
				first := (from + 1) / 2
				end := min((to+1)/2, n)
				if len(got) != max(0, min(end-first, most)) {
					t.Fatalf("from %d to %d, %d: %d pairs", from, to, most, len(got))
				}
				for i, x := range got {
					if string(x.Key) != number(2*(first+i)) {
						t.Fatalf("from %d to %d, %d: %x at %d", from, to, most, x.Key, i)
					}
				}
			}
		}
	}
}

// P8.5

func TestCopy(t *testing.T) {
	for _, n := range []int{0, 1, 8, 9, 100, 1000} {
		tree := New(8 * n)
		m := model{}
		for i := range n {
			puts(t, tree, number(i), "1234")
			m[number(i)] = "1234"
		}
		other := tree.Copy()
		has(t, "the copy", other, m)
		if e := other.Put([]byte("x"), nil); e != api.ErrFull {
			t.Errorf("%d: the copy has another room: %d", n, e)
		}
		for i := range n {
			if i%3 > 0 && !other.Delete([]byte(number(i))) {
				t.Fatal(i)
			}
			if i%3 == 0 {
				puts(t, other, number(i), "5")
			}
		}
		has(t, "the tree beside its copy", tree, m)
		last := model{}
		for i := 0; i < n; i += 3 {
			last[number(i)] = "5"
		}
		for i := range n {
			tree.Delete([]byte(number(i)))
		}
		puts(t, tree, "", "")
		has(t, "the copy beside its tree", other, last)
		has(t, "the tree", tree, model{"": ""})
	}
}

// spoil overwrites bytes, and those behind them that an append would use.
func spoil(b []byte) {
	b = b[:cap(b)]
	for i := range b {
		b[i] = '!'
	}
}

func TestArgumentsAreNotShared(t *testing.T) {
	tree := New(enough)
	m := model{}
	for i := range 100 {
		room := []byte(number(i) + "value" + number(i) + "behind")
		before := string(room)
		key, value := room[:4], room[4:9]
		if tree.Put(key, value) != api.OK || tree.Put(key, key) != api.OK || tree.Put(key, value) != api.OK {
			t.Fatal(i)
		}
		tree.Get(key)
		tree.Scan(key, value, 3)
		tree.Delete(room[:3])
		tree.Copy()
		if string(room) != before {
			t.Fatalf("an argument was changed: %q", room)
		}
		m[string(key)] = string(value)
		spoil(room)
	}
	has(t, "arguments that changed", tree, m)
	for i := range 100 {
		key := []byte(number(i))
		if tree.Delete(key); string(key) != number(i) {
			t.Fatalf("an argument was changed: %q", key)
		}
	}
}

func TestResultsAreNotShared(t *testing.T) {
	tree := New(enough)
	m := model{}
	for i := range 100 {
		puts(t, tree, number(i), "value")
		m[number(i)] = "value"
	}
	other := tree.Copy()
	for i := range 100 {
		got, _ := tree.Get([]byte(number(i)))
		spoil(got)
	}
	pairs := all(tree)
	for i := range pairs {
		spoil(pairs[i].Key)
		for k := range pairs {
			if k > i && !bytes.Equal(pairs[k].Key, []byte(number(k))) || k >= i && string(pairs[k].Value) != "value" {
				t.Fatalf("what Scan answers at %d follows what it answers at %d", k, i)
			}
		}
		spoil(pairs[i].Value)
	}
	for i := range pairs {
		pairs[i] = api.Pair{}
	}
	has(t, "results that changed", tree, m)
	has(t, "results that changed, in the copy", other, m)
	leaves(tree.root, func(p page) {
		for _, x := range p.pairs {
			spoil(x.Key)
			spoil(x.Value)
		}
		clear(p.pairs)
	})
	has(t, "what was in the tree, in the copy", other, m)
}

// leaves shows the leaves below a page.
func leaves(p page, see func(page)) {
	if len(p.kids) == 0 {
		see(p)
	}
	for _, k := range p.kids {
		leaves(k, see)
	}
}

// P8.6

// permutations shows all orders of the numbers below n.
func permutations(n int, see func([]int)) {
	var order func(l []int, used int)
	order = func(l []int, used int) {
		if len(l) == n {
			see(l)
		}
		for i := range n {
			if used>>i&1 == 0 {
				order(append(l, i), used|1<<i)
			}
		}
	}
	order(make([]int, 0, n), 0)
}

func TestOrderOfPuts(t *testing.T) {
	letters := "abcdefg"
	want := all(of(t, strings.Split(letters, "")...))
	permutations(len(letters), func(l []int) {
		tree := New(enough)
		for _, i := range l {
			puts(t, tree, letters[i:i+1], letters[i:i+1])
		}
		if !samePairs(all(tree), want) || tree.Len() != len(l) || tree.Size() != 2*len(l) {
			t.Fatalf("%v: %q", l, all(tree))
		}
	})
	for _, n := range []int{9, 20, 100, 2000} {
		m := model{}
		for i := range n {
			m[number(i)] = number(n - i)
		}
		for seed := range int64(5) {
			tree := New(enough)
			for _, i := range rand.New(rand.NewSource(seed)).Perm(n) {
				puts(t, tree, number(i), number(n-i))
			}
			has(t, "an order", tree, m)
		}
	}
}

func TestPutThenDelete(t *testing.T) {
	for _, n := range []int{0, 1, 4, 7, 8, 9, 16, 17, 40, 100, 300} {
		tree := New(enough)
		m := model{}
		for i := range n {
			puts(t, tree, number(2*i+1), number(i))
			m[number(2*i+1)] = number(i)
		}
		for i := range n + 1 {
			puts(t, tree, number(2*i), "x")
			wellFormed(t, "put", tree)
			if !tree.Delete([]byte(number(2 * i))) {
				t.Fatal(n, i)
			}
			has(t, "put and deleted", tree, m)
		}
	}
}

// R1: a nil and a zero tree can be asked, too.
func TestNilAndZeroTree(t *testing.T) {
	var none *Tree
	for _, tree := range []*Tree{none, none.Copy(), none.Copy().Copy()} {
		if e := tree.Put(nil, nil); e != api.ErrFull {
			t.Error(e)
		}
		if e := tree.Put([]byte("a"), []byte("b")); e != api.ErrFull {
			t.Error(e)
		}
		if got, ok := tree.Get(nil); ok || len(got) != 0 {
			t.Errorf("%q", got)
		}
		if tree.Delete(nil) || len(all(tree)) != 0 || tree.Len() != 0 || tree.Size() != 0 || tree.Height() != 1 || !tree.Sound() {
			t.Error("a nil tree has something")
		}
	}
	for _, tree := range []*Tree{{}, (&Tree{}).Copy()} {
		has(t, "a zero tree", tree, model{})
		if e := tree.Put([]byte("a"), nil); e != api.ErrFull {
			t.Error(e)
		}
		puts(t, tree, "", "")
		has(t, "a zero tree with a pair", tree, model{"": ""})
	}
}

// Random scripts with many pages, held against the model.
func TestRandomScripts(t *testing.T) {
	for seed := range int64(24) {
		r := rand.New(rand.NewSource(seed))
		room := []int{enough, 40, 400, 4000}[seed%4]
		tree, m := New(room), model{}
		span := []int{12, 60, 900}[seed%3]
		for step := range 3000 {
			k := number(r.Intn(span))[4-1-r.Intn(4):]
			grows := step/500%2 == 0
			if r.Intn(10) < 7 == grows {
				v := number(step)[r.Intn(5):]
				if e := tree.Put([]byte(k), []byte(v)); e != m.put(room, k, v) {
					t.Fatalf("%d, %d: %d", seed, step, e)
				}
			} else if tree.Delete([]byte(k)) != m.delete(k) {
				t.Fatalf("%d, %d: Delete of %q", seed, step, k)
			}
			wellFormed(t, "a random script", tree)
			if step%100 == 0 {
				has(t, "a random script", tree, m)
			}
		}
		has(t, "a random script", tree, m)
	}
}

// Fuzz: bytes as a script.
func FuzzTree(f *testing.F) {
	f.Add([]byte(nil), 0)
	f.Add([]byte("\x00a1\x00b2\x01a\x00c3\x02\x03ab"), 10)
	f.Add(bytes.Repeat([]byte("0a1b2c3d4e5f6g7h8i9j"), 20), math.MaxInt)
	f.Add([]byte{255, 255, 255}, -1)
	f.Fuzz(func(t *testing.T, script []byte, room int) {
		tree, m := New(room), model{}
		for len(script) > 2 {
			what, k, v := script[0]%4, string(script[1:1+script[1]%2]), string(script[2:2+script[2]%3/2])
			k += string(script[1:2])
			script = script[3:]
			switch what {
			case 0, 1:
				if e := tree.Put([]byte(k), []byte(v)); e != m.put(room, k, v) {
					t.Fatal(e)
				}
			case 2:
				if tree.Delete([]byte(k)) != m.delete(k) {
					t.Fatalf("Delete of %q", k)
				}
			case 3:
				if most := len(script); !samePairs(tree.Scan([]byte(k), []byte(v), most), m.scan(k, v, most)) {
					t.Fatal(k, v, most)
				}
			}
		}
		has(t, "a script", tree, m)
		has(t, "a script, copied", tree.Copy(), m)
	})
}
