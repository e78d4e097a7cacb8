package tuple

import (
	"bytes"
	"math/rand"
	"slices"
	"strings"
	"testing"
	"unsafe"

	"concierge/api"
	"concierge/names"
)

// Any text can be a tenant, also one that looks like a piece of a key.
var tenants = []string{"", "acme", "system", "a", "ac", "f", "r", "\x00", "\x00\x01", "\x01", "\xff", "\x00\xff", "a\x00b", "acme\x00\x01doc", "A b", "é", strings.Repeat("\x00", 1000)}

// joined is parts as a key by the words of the chapter of package key.
func joined(parts ...string) []byte {
	var b []byte
	for _, part := range parts {
		b = append(b, strings.ReplaceAll(part, "\x00", "\x00\xff")+"\x00\x01"...)
	}
	return b
}

// forward and backward are the parts behind the tenant of a tuple's two keys.
func forward(p [6]string) []string  { return p[:] }
func backward(p [6]string) []string { return []string{p[3], p[4], p[5], p[0], p[1], p[2]} }

// A way is one of the two kinds of keys.
type way struct {
	first string
	key   func(tenant string, t api.Tuple) []byte
	read  func(b []byte) (string, api.Tuple, bool)
	parts func(p [6]string) []string
}

func ways() []way {
	return []way{{"f", Key, Read, forward}, {"r", Back, ReadBack, backward}}
}

// bytesOf is the key of a tuple, valid or not, by the chapter's words.
func (w way) bytesOf(tenant string, p [6]string) []byte {
	return joined(append([]string{w.first, tenant}, w.parts(p)...)...)
}

// refuses looks whether b is read as no key.
func (w way) refuses(t *testing.T, b []byte) {
	t.Helper()
	if tenant, l, is := w.read(b); tenant != "" || l != (api.Tuple{}) || is {
		t.Errorf("%s: %q: %q %q %v", w.first, b, tenant, partsOf(l), is)
	}
}

// cut is the parts of a key by the words of the chapter of package key.
func cut(b []byte) ([]string, bool) {
	var parts []string
	for rest := string(b); rest != ""; {
		end := 0
		for end < len(rest) && (rest[end] != 0 || end+1 < len(rest) && rest[end+1] == 255) {
			if rest[end] == 0 {
				end++
			}
			end++
		}
		if !strings.HasPrefix(rest[end:], "\x00\x01") {
			return nil, false
		}
		parts = append(parts, strings.ReplaceAll(rest[:end], "\x00\xff", "\x00"))
		rest = rest[end+2:]
	}
	return parts, true
}

// checkRead holds what b is read as against the model.
func (w way) checkRead(t *testing.T, b []byte) {
	t.Helper()
	before := slices.Clone(b)
	var wantTenant string
	var want api.Tuple
	parts, is := cut(b)
	is = is && len(parts) == 8 && parts[0] == w.first
	if is {
		p := [6]string(parts[2:])
		if w.first == "r" {
			p = [6]string{p[3], p[4], p[5], p[0], p[1], p[2]}
		}
		if is = names.ShowTuple(tupleOf(p)) != ""; is {
			wantTenant, want = parts[1], tupleOf(p)
		}
	}
	tenant, l, got := w.read(b)
	if tenant != wantTenant || l != want || got != is {
		t.Errorf("%s: %q: %q %q %v, not %q %q %v", w.first, b, tenant, partsOf(l), got, wantTenant, partsOf(want), is)
	}
	if got && !bytes.Equal(w.key(tenant, l), b) {
		t.Errorf("%s: %q has another key than %q", w.first, partsOf(l), b)
	}
	if !bytes.Equal(b, before) {
		t.Errorf("%q was changed into %q", before, b)
	}
}

// P13.2

func TestKeysOfExamples(t *testing.T) {
	l := named(t, "doc:1#owner@user:a")
	if b := Key("acme", l); string(b) != "f\x00\x01acme\x00\x01doc\x00\x011\x00\x01owner\x00\x01user\x00\x01a\x00\x01\x00\x01" {
		t.Errorf("%q", b)
	}
	if b := Back("acme", l); string(b) != "r\x00\x01acme\x00\x01user\x00\x01a\x00\x01\x00\x01doc\x00\x011\x00\x01owner\x00\x01" {
		t.Errorf("%q", b)
	}
	l = tupleOf(plain())
	if b := Key("", l); string(b) != "f\x00\x01\x00\x01doc\x00\x011\x00\x01viewer\x00\x01group\x00\x01eng\x00\x01member\x00\x01" {
		t.Errorf("%q", b)
	}
	if b := Back("a\x00", l); string(b) != "r\x00\x01a\x00\xff\x00\x01group\x00\x01eng\x00\x01member\x00\x01doc\x00\x011\x00\x01viewer\x00\x01" {
		t.Errorf("%q", b)
	}
}

// P13.2, P13.3, P13.5: each part in its turn, for all tenants.
func TestKeysOfEachPart(t *testing.T) {
	for _, w := range ways() {
		for i := range 6 {
			for _, text := range slices.Concat(goodNames, goodIDs, badNames, badIDs) {
				for _, tenant := range tenants {
					p := plain()
					p[i] = text
					l, b := tupleOf(p), w.bytesOf(tenant, p)
					w.checkRead(t, b)
					if names.ShowTuple(l) == "" {
						b = nil
					}
					if got := w.key(tenant, l); !bytes.Equal(got, b) {
						t.Errorf("%s: %q %q: %q", w.first, tenant, p, got)
					}
				}
			}
		}
	}
}

func TestKeysOfWrongTuples(t *testing.T) {
	for _, w := range ways() {
		for _, l := range withWrongParts() {
			for _, tenant := range tenants {
				if b := w.key(tenant, l); len(b) != 0 {
					t.Errorf("%s: %q: %q", w.first, partsOf(l), b)
				}
				w.refuses(t, w.bytesOf(tenant, partsOf(l)))
			}
		}
		long := strings.Repeat("a", 1<<22)
		if b := w.key("acme", tupleOf([6]string{long, long, long, long, long, long})); len(b) != 0 {
			t.Errorf("%s: a key of long parts", w.first)
		}
	}
}

// P13.3

func TestReadOfExamples(t *testing.T) {
	for _, w := range ways() {
		for _, text := range []string{"doc:1#owner@user:a", "doc:1#viewer@group:eng#member", longName + ":" + longID + "#" + longName + "@" + longName + ":" + longID + "#" + longName} {
			for _, tenant := range tenants {
				l := named(t, text)
				if gotTenant, got, is := w.read(w.key(tenant, l)); gotTenant != tenant || got != l || !is {
					t.Errorf("%s: %q %q: %q %q %v", w.first, tenant, text, gotTenant, partsOf(got), is)
				}
			}
		}
	}
}

// Keys of other things than tuples, among them all that a tenant has.
func TestReadOfOtherKeys(t *testing.T) {
	key := func(parts ...string) []byte { return joined(parts...) }
	for _, w := range ways() {
		tuple := append([]string{w.first, "acme"}, w.parts(plain())...)
		for i := range tuple {
			w.refuses(t, key(tuple[:i]...))                                 // too few parts
			w.refuses(t, key(slices.Insert(slices.Clone(tuple), i, "")...)) // too many
			w.refuses(t, key(slices.Insert(slices.Clone(tuple), i, "a")...))
			w.refuses(t, key(slices.Delete(slices.Clone(tuple), i, i+1)...))
		}
		w.refuses(t, key(append(tuple, "")...))
		w.refuses(t, key(append(tuple, tuple...)...))
		for _, first := range []string{"", "F", "R", "ff", "rr", "f ", "m", "s", "k", "a", "h", "\x00", "fr", "rf"} {
			w.refuses(t, key(append([]string{first}, tuple[1:]...)...))
		}
		for _, other := range [][]byte{nil, {}, {0}, {0, 1}, {0, 255}, {255}, []byte(w.first), key(w.first), key(w.first, "acme"), key("m", "acme"), key("k", "acme", "k1"), bytes.Repeat([]byte{0, 1}, 8)} {
			w.refuses(t, other)
		}
	}
	p := plain()
	if _, _, is := Read(Back("acme", tupleOf(p))); is {
		t.Error("a Back is no Key")
	}
	if _, _, is := ReadBack(Key("acme", tupleOf(p))); is {
		t.Error("a Key is no Back")
	}
}

// Keys that are one byte away from a valid one.
func TestReadNearby(t *testing.T) {
	for _, w := range ways() {
		for _, text := range []string{"doc:1#owner@user:a", "a:B#c@d:E#f"} {
			b := w.key("t\x00n", named(t, text))
			for i := range b {
				w.refuses(t, b[:i])
				w.checkRead(t, b[i:])
				w.checkRead(t, slices.Delete(slices.Clone(b), i, i+1))
				for c := range 256 {
					w.checkRead(t, slices.Insert(slices.Clone(b), i, byte(c)))
					w.refuses(t, append(slices.Clone(b), byte(c)))
					changed := slices.Clone(b)
					changed[i] = byte(c)
					w.checkRead(t, changed)
				}
			}
		}
	}
}

// P1: anything ends.
func TestReadOfManyBytes(t *testing.T) {
	for _, w := range ways() {
		for _, piece := range []string{"\x00", "\x00\x01", "\x00\xff", "\xff", "a", "f\x00\x01", "r\x00\x01", "a\x00\x01"} {
			b := bytes.Repeat([]byte(piece), 1<<18)
			w.refuses(t, b)
			w.refuses(t, slices.Concat(w.key("acme", tupleOf(plain())), b))
			w.refuses(t, slices.Concat([]byte(w.first+"\x00\x01acme\x00\x01"), b))
		}
		tenant := strings.Repeat("\x00a", 1<<18)
		if got, l, is := w.read(w.key(tenant, tupleOf(plain()))); got != tenant || partsOf(l) != plain() || !is {
			t.Errorf("%s: a long tenant", w.first)
		}
	}
}

// P13.5

// randomTuple is a valid tuple, of texts that often begin with one another.
func randomTuple(r *rand.Rand) api.Tuple {
	name := func() string {
		return []string{"a", "ab", "a_", "a0", "b", "ba", "aa", "z", longName, longName[:15]}[r.Intn(10)]
	}
	id := func() string {
		return []string{"a", "A", "0", "_", "-", ".", "a-", "a.", "aA", "a0", longID, longID[:23]}[r.Intn(12)]
	}
	p := [6]string{"a", "a", "a", "a", "a", ""}
	for i := range p {
		switch {
		case r.Intn(3) > 0:
		case i == 1 || i == 4:
			p[i] = id()
		default:
			p[i] = name()
		}
	}
	return tupleOf(p)
}

// The tuples sort as their Keys do, and by their subjects first as their Backs do.
func TestOrderOfKeys(t *testing.T) {
	r := rand.New(rand.NewSource(4))
	var all []api.Tuple
	for range 500 {
		all = append(all, randomTuple(r))
	}
	for _, tenant := range []string{"", "acme", "\x00", "\xff"} {
		var keys, backs [][]byte
		for _, a := range all {
			keys, backs = append(keys, Key(tenant, a)), append(backs, Back(tenant, a))
		}
		for i, a := range all {
			for k, b := range all {
				if less := bytes.Compare(keys[i], keys[k]) < 0; names.Less(a, b) != less {
					t.Fatalf("%q %q: %v", partsOf(a), partsOf(b), less)
				}
				less := bytes.Compare(backs[i], backs[k]) < 0
				if want := slices.Compare(backward(partsOf(a)), backward(partsOf(b))) < 0; want != less {
					t.Fatalf("%q %q: %v", partsOf(a), partsOf(b), less)
				}
				if bytes.Equal(keys[i], keys[k]) != (a == b) || bytes.Equal(backs[i], backs[k]) != (a == b) {
					t.Fatalf("%q %q have the same key", partsOf(a), partsOf(b))
				}
			}
		}
	}
}

// The order of the texts is another one.
func TestKeysDoNotSortAsTexts(t *testing.T) {
	for _, pair := range [][2]string{{"doc:1#a@user:x", "doc1:1#a@user:x"}, {"doc:1#a@user:x", "doc:1#a1@user:x"}, {"doc:1#a@user:x", "doc:1#a@user1:x"}} {
		a, b := named(t, pair[0]), named(t, pair[1])
		if pair[0] < pair[1] || bytes.Compare(Key("t", a), Key("t", b)) >= 0 || !names.Less(a, b) {
			t.Errorf("%q", pair)
		}
	}
}

// R3: what is answered has none of the argument's memory.
func TestReadTextsAreNewMemory(t *testing.T) {
	for _, w := range ways() {
		b := w.key("acme", tupleOf(plain()))
		again := w.key("acme", tupleOf(plain()))
		tenant, l, _ := w.read(b)
		clear(b)
		if tenant != "acme" || partsOf(l) != plain() || !bytes.Equal(again, w.key("acme", tupleOf(plain()))) {
			t.Errorf("%s: %q %q have changed with the key", w.first, tenant, partsOf(l))
		}
	}
}

// within reports whether a text lies in the memory of another one.
func within(part, s string) bool {
	from := uintptr(unsafe.Pointer(unsafe.StringData(s)))
	at := uintptr(unsafe.Pointer(unsafe.StringData(part)))
	return part != "" && at >= from && at < from+uintptr(len(s))
}

// Fuzz: any bytes as a key, and any parts.
func FuzzKeys(f *testing.F) {
	f.Add([]byte("f\x00\x01acme\x00\x01doc\x00\x011\x00\x01owner\x00\x01user\x00\x01a\x00\x01\x00\x01"), "acme", "doc", "1", "owner")
	f.Add([]byte("r\x00\x01acme\x00\x01user\x00\x01a\x00\x01\x00\x01doc\x00\x011\x00\x01owner\x00\x01"), "", "", "", "")
	f.Add([]byte("\x00\xff\x00\x01"), "\x00", "a\x00", "\x00\x01", "\xff")
	f.Fuzz(func(t *testing.T, b []byte, tenant, x, y, z string) {
		for _, w := range ways() {
			w.checkRead(t, b)
			for _, p := range [][6]string{{x, y, z, x, y, ""}, {x, y, z, z, y, x}, {"a", y, z, x, "1", z}} {
				w.checkRead(t, w.bytesOf(tenant, p))
				var want []byte
				if names.ShowTuple(tupleOf(p)) != "" {
					want = w.bytesOf(tenant, p)
				}
				if got := w.key(tenant, tupleOf(p)); !bytes.Equal(got, want) {
					t.Errorf("%s: %q %q: %q", w.first, tenant, p, got)
				}
			}
		}
	})
}
