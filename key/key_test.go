package key

import (
	"bytes"
	"encoding/hex"
	"math/rand"
	"slices"
	"strings"
	"testing"

	"concierge/api"
)

// The calls as the chapter lists them: another signature does not compile.
var (
	_ func(parts [][]byte) []byte          = Encode
	_ func(b []byte) ([][]byte, api.Errno) = Decode
	_ func(parts ...string) []byte         = Texts
	_ func(b, prefix []byte) bool          = Begins
	_ func(prefix []byte) []byte           = Behind
)

// compareLists compares lists part by part, a proper prefix being less.
func compareLists(a, b [][]byte) int {
	return slices.CompareFunc(a, b, bytes.Compare)
}

// words returns all words of up to n of the letters.
func words(letters []byte, n int) [][]byte {
	all := [][]byte{{}}
	last := all
	for range n {
		var next [][]byte
		for _, w := range last {
			for _, c := range letters {
				next = append(next, append(bytes.Clone(w), c))
			}
		}
		all = append(all, next...)
		last = next
	}
	return all
}

// lists returns all lists of up to n of the parts.
func lists(parts [][]byte, n int) [][][]byte {
	all := [][][]byte{{}}
	last := all
	for range n {
		var next [][][]byte
		for _, l := range last {
			for _, p := range parts {
				next = append(next, append(slices.Clone(l), p))
			}
		}
		all = append(all, next...)
		last = next
	}
	return all
}

// someLists are lists of parts with the bytes that count: those of a key's own, and those beside them.
func someLists() [][][]byte {
	short := lists(words([]byte{0, 1, 2, 254, 255}, 1), 3)
	long := lists(words([]byte{0, 1, 255}, 3), 1)
	pairs := lists(words([]byte{0, 1, 255}, 2), 2)
	return slices.Concat(short, long, pairs)
}

// byWords is the key by the words of the chapter.
func byWords(parts [][]byte) []byte {
	var key strings.Builder
	for _, p := range parts {
		key.WriteString(strings.ReplaceAll(string(p), "\x00", "\x00\xff") + "\x00\x01")
	}
	return []byte(key.String())
}

func cloneList(parts [][]byte) [][]byte {
	list := make([][]byte, len(parts))
	for i, p := range parts {
		list[i] = bytes.Clone(p)
	}
	return list
}

func sameList(a, b [][]byte) bool {
	return slices.EqualFunc(a, b, bytes.Equal)
}

func unhex(t *testing.T, s string) []byte {
	t.Helper()
	b, err := hex.DecodeString(strings.ReplaceAll(s, " ", ""))
	if err != nil {
		t.Fatal(err)
	}
	return b
}

// P4.1

// The first two are the chapter's examples.
func TestEncodeExamples(t *testing.T) {
	examples := []struct {
		parts [][]byte
		key   string
	}{
		{[][]byte{[]byte("a"), {}}, "61 00 01 00 01"},
		{[][]byte{{0}}, "00 ff 00 01"},
		{nil, ""},
		{[][]byte{}, ""},
		{[][]byte{{}}, "00 01"},
		{[][]byte{nil}, "00 01"},
		{[][]byte{nil, {}, nil}, "00 01 00 01 00 01"},
		{[][]byte{{1}}, "01 00 01"},
		{[][]byte{{255}}, "ff 00 01"},
		{[][]byte{{0, 1}}, "00 ff 01 00 01"},
		{[][]byte{{0, 255}}, "00 ff ff 00 01"},
		{[][]byte{{0, 0, 0}}, "00 ff 00 ff 00 ff 00 01"},
		{[][]byte{{0}, {0}}, "00 ff 00 01 00 ff 00 01"},
		{[][]byte{[]byte("ab"), {1, 0, 255, 0}, []byte("c")}, "61 62 00 01 01 00 ff ff 00 ff 00 01 63 00 01"},
	}
	for _, e := range examples {
		if key := Encode(e.parts); !bytes.Equal(key, unhex(t, e.key)) {
			t.Errorf("%q: % x", e.parts, key)
		}
	}
}

func TestEncodeByItsWords(t *testing.T) {
	for _, parts := range someLists() {
		if key := Encode(parts); !bytes.Equal(key, byWords(parts)) {
			t.Errorf("%q: % x", parts, key)
		}
	}
	for c := range 256 {
		parts := [][]byte{{byte(c)}, {byte(c), byte(c)}, {'a', byte(c), 'b'}}
		if key := Encode(parts); !bytes.Equal(key, byWords(parts)) {
			t.Errorf("%q: % x", parts, key)
		}
	}
}

func TestTexts(t *testing.T) {
	examples := []struct {
		parts []string
		key   string
	}{
		{nil, ""},
		{[]string{""}, "00 01"},
		{[]string{"a", ""}, "61 00 01 00 01"},
		{[]string{"doc:1", "can"}, "64 6f 63 3a 31 00 01 63 61 6e 00 01"},
		{[]string{"\x00"}, "00 ff 00 01"},
		{[]string{"é", "\xff\xfe", "\x01\x00"}, "c3 a9 00 01 ff fe 00 01 01 00 ff 00 01"},
	}
	for _, e := range examples {
		if key := Texts(e.parts...); !bytes.Equal(key, unhex(t, e.key)) {
			t.Errorf("%q: % x", e.parts, key)
		}
	}
	if !bytes.Equal(Texts(), nil) || !bytes.Equal(Texts("a", "b"), unhex(t, "61 00 01 62 00 01")) {
		t.Error("parts that are told one by one")
	}
}

// Texts is Encode of the texts' bytes, also where these are no UTF-8.
func TestTextsIsEncode(t *testing.T) {
	for _, parts := range someLists() {
		var texts []string
		for _, p := range parts {
			texts = append(texts, string(p))
		}
		if !bytes.Equal(Texts(texts...), Encode(parts)) {
			t.Errorf("%q: % x", texts, Texts(texts...))
		}
	}
}

// R3: the arguments are left as they are, also behind their ends, and the answers are the caller's.
func TestEncodeSharesNothing(t *testing.T) {
	room := []byte("ab\x00cdefgh")
	parts := [][]byte{room[:1], room[1:4], {}, room[4:5]}
	before := cloneList(parts)
	key := Encode(parts)
	if !sameList(parts, before) || string(room) != "ab\x00cdefgh" {
		t.Error("an argument was changed")
	}
	clear(room)
	if !bytes.Equal(key, byWords(before)) {
		t.Error("the answer follows an argument")
	}
	again := Encode(before)
	clear(key[:cap(key)])
	if !bytes.Equal(again, byWords(before)) {
		t.Error("two answers share memory")
	}
	one := [][]byte{make([]byte, 1, 10)}
	clear(Encode(one))
	if key := Encode(one); !bytes.Equal(key, []byte{0, 255, 0, 1}) {
		t.Errorf("% x", key)
	}
	texts := []string{"b", "a", "\x00"}
	Texts(texts...)
	if !slices.Equal(texts, []string{"b", "a", "\x00"}) {
		t.Error("the texts were changed")
	}
}

// P4.2

func TestDecodeExamples(t *testing.T) {
	examples := []struct {
		key   string
		parts [][]byte
	}{
		{"", nil},
		{"61 00 01 00 01", [][]byte{[]byte("a"), {}}},
		{"00 ff 00 01", [][]byte{{0}}},
		{"00 01", [][]byte{{}}},
		{"00 01 00 01", [][]byte{{}, {}}},
		{"00 ff 01 00 01", [][]byte{{0, 1}}},
		{"00 ff ff 00 01", [][]byte{{0, 255}}},
		{"01 00 01 ff 00 01", [][]byte{{1}, {255}}},
		{"00 ff 00 ff 00 01 00 ff 00 01", [][]byte{{0, 0}, {0}}},
	}
	for _, e := range examples {
		parts, errno := Decode(unhex(t, e.key))
		if errno != api.OK || !sameList(parts, e.parts) {
			t.Errorf("%s: %q, %d", e.key, parts, errno)
		}
	}
	if parts, errno := Decode([]byte{}); errno != api.OK || len(parts) != 0 {
		t.Errorf("no bytes: %q, %d", parts, errno)
	}
}

func TestDecodeOfNoKey(t *testing.T) {
	wrong := []string{
		"00",                   // a zero byte is the last one
		"61 00",                // the same behind a byte
		"00 01 00",             // the same behind a part
		"00 ff 00",             // the same behind a zero byte of the part
		"00 00",                // what follows a zero byte is another one
		"00 00 01",             // the same, with what would be an end
		"00 02",                // what follows is beside 1
		"00 fe",                // what follows is beside 255
		"61 00 61",             // what follows is a letter
		"00 01 00 02",          // the same behind a part
		"00 01 00 00 01",       // the same behind a part
		"00 02 00 01",          // a part follows
		"61",                   // nothing ends the part
		"01",                   // the same: no zero byte is ahead
		"ff",                   // the same
		"00 ff",                // what is there is a zero byte of a part that nothing ends
		"00 ff 01",             // the same: this 1 ends nothing
		"00 ff 00 ff",          // the same
		"61 00 01 62",          // bytes behind the last end
		"00 01 01",             // the same
		"00 01 ff",             // the same
		"00 01 00 ff",          // the same
		"61 00 01 00 01 62 63", // the same
	}
	for _, s := range wrong {
		if parts, errno := Decode(unhex(t, s)); errno != api.ErrForm || len(parts) != 0 {
			t.Errorf("%s: %q, %d", s, parts, errno)
		}
	}
	for c := range 256 {
		parts, errno := Decode([]byte{0, byte(c), 0, 1})
		switch {
		case c == 1 && errno == api.OK && sameList(parts, [][]byte{{}, {}}):
		case c == 255 && errno == api.OK && sameList(parts, [][]byte{{0}}):
		case c != 1 && c != 255 && errno == api.ErrForm && len(parts) == 0:
		default:
			t.Errorf("a zero byte and %d: %q, %d", c, parts, errno)
		}
	}
}

// fault tells what is wrong with b by the three cases of the chapter.
func fault(b []byte) bool {
	end := 0
	for i := 0; i < len(b); i++ {
		if b[i] != 0 {
			continue
		}
		if i == len(b)-1 || b[i+1] != 1 && b[i+1] != 255 {
			return true
		}
		i++
		if b[i] == 1 {
			end = i + 1
		}
	}
	return end < len(b)
}

// Of any bytes, Decode either has the one list whose Encode they are, or there is none.
func TestDecodeOfAllShortBytes(t *testing.T) {
	for _, b := range words([]byte{0, 1, 2, 254, 255}, 6) {
		before := bytes.Clone(b)
		parts, errno := Decode(b)
		if !bytes.Equal(b, before) {
			t.Fatalf("% x was changed", before)
		}
		if fault(b) {
			if errno != api.ErrForm || len(parts) != 0 {
				t.Errorf("% x: %q, %d", b, parts, errno)
			}
		} else if errno != api.OK || !bytes.Equal(Encode(parts), b) {
			t.Errorf("% x: %q, %d", b, parts, errno)
		}
	}
}

// Of a key, each beginning that ends with a part is one too, and no other one is.
func TestDecodeOfBeginnings(t *testing.T) {
	parts := [][]byte{[]byte("a"), {}, {0, 1, 255}, []byte("bcd"), {0}}
	key := Encode(parts)
	ends := map[int]int{}
	for n := range len(parts) + 1 {
		ends[len(Encode(parts[:n]))] = n + 1
	}
	for n := range len(key) + 1 {
		got, errno := Decode(key[:n])
		if k := ends[n]; k > 0 {
			if errno != api.OK || !sameList(got, parts[:k-1]) {
				t.Errorf("%d bytes: %q, %d", n, got, errno)
			}
		} else if errno != api.ErrForm || len(got) != 0 {
			t.Errorf("%d bytes: %q, %d", n, got, errno)
		}
	}
}

// R3: the parts share no memory with the key, nor with one another, also where one is appended to.
func TestDecodeSharesNothing(t *testing.T) {
	want := [][]byte{[]byte("abc"), {}, {0, 255}, []byte("d"), {}, []byte("efghijklmnop")}
	key := Encode(want)
	before := bytes.Clone(key)
	parts, errno := Decode(key)
	if errno != api.OK || !sameList(parts, want) || !bytes.Equal(key, before) {
		t.Fatalf("%q, %d", parts, errno)
	}
	clear(key)
	if !sameList(parts, want) {
		t.Errorf("the parts follow the key: %q", parts)
	}
	for i := range parts {
		got, _ := Decode(before)
		full := got[i][:cap(got[i])]
		for k := range full {
			full[k] = 'x'
		}
		_ = append(got[i], "yyyyyyyy"...)
		for k := range got {
			if k != i && !bytes.Equal(got[k], want[k]) {
				t.Errorf("part %d follows part %d: %q", k, i, got[k])
			}
		}
	}
	if !sameList(parts, want) {
		t.Errorf("two answers share memory: %q", parts)
	}
}

// P4.3

func TestBegins(t *testing.T) {
	examples := []struct {
		b, prefix string
		begins    bool
	}{
		{"", "", true},
		{"a", "", true},
		{"a", "a", true},
		{"ab", "a", true},
		{"abc", "ab", true},
		{"", "a", false},
		{"a", "ab", false},
		{"ab", "b", false},
		{"bab", "ab", false},
		{"a", "A", false},
		{"\x00", "\x00", true},
		{"\x00", "", true},
		{"", "\x00", false},
		{"a", "a\x00", false},
		{"a\x00\x01", "a\x00", true},       // bytes, not parts
		{"ab\x00\x01", "a", true},          // the same
		{"ab\x00\x01", "a\x00\x01", false}, // a part that begins so is another one
	}
	for _, e := range examples {
		if begins := Begins([]byte(e.b), []byte(e.prefix)); begins != e.begins {
			t.Errorf("%q, %q: %v", e.b, e.prefix, begins)
		}
	}
	if !Begins(nil, nil) || !Begins(nil, []byte{}) || !Begins([]byte{}, nil) || !Begins([]byte{1}, nil) || Begins(nil, []byte{0}) {
		t.Error("nothing")
	}
}

func TestBeginsOfAllShortWords(t *testing.T) {
	all := words([]byte{0, 1, 255}, 4)
	for _, b := range all {
		for _, prefix := range all {
			if Begins(b, prefix) != strings.HasPrefix(string(b), string(prefix)) {
				t.Errorf("% x, % x: %v", b, prefix, Begins(b, prefix))
			}
		}
	}
}

// The first is the chapter's example.
func TestBehindExamples(t *testing.T) {
	examples := []struct{ prefix, behind string }{
		{"61 ff", "62"},
		{"", ""},
		{"ff", ""},
		{"ff ff", ""},
		{"ff ff ff ff", ""},
		{"00", "01"},
		{"61", "62"},
		{"fe", "ff"},
		{"fe ff", "ff"},
		{"ff fe", "ff ff"},
		{"ff 00", "ff 01"},
		{"00 ff", "01"},
		{"00 01", "00 02"},
		{"61 ff ff ff", "62"},
		{"61 ff 62", "61 ff 63"},
		{"61 ff 62 ff", "61 ff 63"},
		{"61 00 01", "61 00 02"},
	}
	for _, e := range examples {
		if behind := Behind(unhex(t, e.prefix)); !bytes.Equal(behind, unhex(t, e.behind)) {
			t.Errorf("%s: % x", e.prefix, behind)
		}
	}
	if len(Behind(nil)) != 0 {
		t.Error("nil")
	}
	for c := range 255 {
		if behind := Behind([]byte{'a', byte(c)}); !bytes.Equal(behind, []byte{'a', byte(c + 1)}) {
			t.Errorf("%d: % x", c, behind)
		}
	}
}

// R3: the arguments are left as they are, and the answer is the caller's.
func TestBehindSharesNothing(t *testing.T) {
	room := []byte("ab\xff\xffcd")
	behind := Behind(room[:4])
	if string(room) != "ab\xff\xffcd" {
		t.Errorf("the argument was changed: %q", room)
	}
	clear(room)
	if string(behind) != "ac" {
		t.Errorf("the answer follows the argument: %q", behind)
	}
	b := []byte("abc")
	clear(Behind(b))
	Begins(b, b[:2])
	if string(b) != "abc" {
		t.Errorf("the argument follows the answer: %q", b)
	}
}

// P4.4

func TestDecodeInvertsEncode(t *testing.T) {
	for _, parts := range someLists() {
		got, errno := Decode(Encode(parts))
		if errno != api.OK || !sameList(got, parts) {
			t.Errorf("%q: %q, %d", parts, got, errno)
		}
	}
	r := rand.New(rand.NewSource(4))
	for range 2000 {
		parts := make([][]byte, r.Intn(5))
		for i := range parts {
			parts[i] = make([]byte, r.Intn(40))
			r.Read(parts[i])
			for range r.Intn(10) {
				if n := len(parts[i]); n > 0 {
					parts[i][r.Intn(n)] = []byte{0, 1, 255}[r.Intn(3)]
				}
			}
		}
		got, errno := Decode(Encode(parts))
		if errno != api.OK || !sameList(got, parts) {
			t.Errorf("%q: %q, %d", parts, got, errno)
		}
	}
}

func TestLongParts(t *testing.T) {
	parts := [][]byte{make([]byte, 1<<20), bytes.Repeat([]byte{255}, 1<<20), bytes.Repeat([]byte{0, 1}, 1<<19)}
	got, errno := Decode(Encode(parts))
	if errno != api.OK || !sameList(got, parts) {
		t.Error(errno)
	}
	many := make([][]byte, 1<<18)
	got, errno = Decode(Encode(many))
	if errno != api.OK || !sameList(got, many) {
		t.Error(errno)
	}
}

// The order of keys is that of the lists, and what begins with a key begins with its parts.
func checkPair(t *testing.T, a, b [][]byte, keyA, keyB []byte) {
	t.Helper()
	if bytes.Compare(keyA, keyB) != compareLists(a, b) {
		t.Errorf("%q and %q: % x and % x", a, b, keyA, keyB)
	}
	first := len(a) <= len(b) && sameList(a, b[:len(a)])
	if Begins(keyB, keyA) != first {
		t.Errorf("%q ahead of %q: %v", a, b, !first)
	}
}

func TestOrderOfKeys(t *testing.T) {
	for _, all := range [][][][]byte{
		lists(words([]byte{0, 1, 2, 254, 255}, 1), 3),
		lists(words([]byte{0, 1, 255}, 2), 2),
		lists(words([]byte{0, 1, 255}, 4), 1),
		lists(words([]byte{0}, 3), 4),
	} {
		keys := make([][]byte, len(all))
		for i := range all {
			keys[i] = Encode(all[i])
		}
		for i, a := range all {
			for k, b := range all {
				checkPair(t, a, b, keys[i], keys[k])
			}
		}
	}
}

func TestBehindEndsWhatBegins(t *testing.T) {
	all := words([]byte{0, 1, 2, 254, 255}, 4)
	for _, prefix := range words([]byte{0, 1, 2, 254, 255}, 3) {
		behind := Behind(prefix)
		for _, b := range all {
			between := bytes.Compare(b, prefix) >= 0 && (len(behind) == 0 || bytes.Compare(b, behind) < 0)
			if between != Begins(b, prefix) {
				t.Errorf("%x, between %x and %x: %v", b, prefix, behind, between)
			}
		}
	}
}

// The keys of the lists that begin with some parts are those from the parts' key to what is behind it.
func TestBehindOfKeys(t *testing.T) {
	all := someLists()
	for _, parts := range lists(words([]byte{0, 1, 255}, 1), 2) {
		from := Encode(parts)
		behind := Behind(from)
		for _, l := range all {
			key := Encode(l)
			first := len(parts) <= len(l) && sameList(parts, l[:len(parts)])
			between := bytes.Compare(key, from) >= 0 && (len(behind) == 0 || bytes.Compare(key, behind) < 0)
			if between != first {
				t.Errorf("%q, by %q: %v", l, parts, between)
			}
		}
	}
}

// Fuzz: any bytes as a key, as a prefix and as parts.
func FuzzKey(f *testing.F) {
	f.Add([]byte(nil), []byte(nil))
	f.Add([]byte{0, 1, 0, 255, 0, 1}, []byte{0, 1})
	f.Add([]byte("a\x00\x01\x00\x01"), []byte("a\xff"))
	f.Add([]byte{0}, []byte{255, 255})
	f.Add([]byte{0, 2}, []byte{254, 255})
	f.Fuzz(func(t *testing.T, a, b []byte) {
		parts, errno := Decode(a)
		if fault(a) != (errno == api.ErrForm) || errno != api.OK && (errno != api.ErrForm || len(parts) != 0) {
			t.Errorf("% x: %q, %d", a, parts, errno)
		}
		if errno == api.OK && !bytes.Equal(Encode(parts), a) {
			t.Errorf("% x: %q", a, parts)
		}
		for _, pair := range [][2][][]byte{{{a}, {b}}, {{a, b}, {a}}, {{a, b}, {b, a}}, {{a, nil}, {a, b}}} {
			checkPair(t, pair[0], pair[1], Encode(pair[0]), Encode(pair[1]))
		}
		behind := Behind(b)
		between := bytes.Compare(a, b) >= 0 && (len(behind) == 0 || bytes.Compare(a, behind) < 0)
		if Begins(a, b) != bytes.HasPrefix(a, b) || between != Begins(a, b) {
			t.Errorf("% x, % x, % x: %v", a, b, behind, Begins(a, b))
		}
	})
}
