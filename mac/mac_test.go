package mac

import (
	"bytes"
	"crypto/hmac"
	"crypto/sha256"
	"encoding/hex"
	"math/rand"
	"slices"
	"strings"
	"testing"

	"concierge/api"
	"concierge/sha"
)

// The calls as the chapter lists them: another signature does not compile.
var (
	_ func(key, b []byte) []byte     = Mac
	_ func(a, b []byte) bool         = Equal
	_ func(key, b, code []byte) bool = Check
	_ func(a, b []byte) int          = Looks
)

// someBytes returns n bytes, the same in each run.
func someBytes(n int) []byte {
	b := make([]byte, n)
	rand.New(rand.NewSource(int64(n) + 1)).Read(b)
	return b
}

// keyLengths are lengths of keys, with those around 32 (that of a hash) and 64 (the longest that is not hashed).
func keyLengths() []int {
	return []int{0, 1, 2, 20, 31, 32, 33, 55, 56, 62, 63, 64, 65, 66, 96, 127, 128, 129, 1000}
}

// textLengths are lengths of texts, with those at which the hash needs one more block.
func textLengths() []int {
	return []int{0, 1, 2, 31, 32, 55, 56, 63, 64, 65, 119, 120, 127, 128, 129, 5000}
}

// want is the code by the library of Go.
func want(key, b []byte) []byte {
	h := hmac.New(sha256.New, key)
	h.Write(b)
	return h.Sum(nil)
}

func unhex(t *testing.T, s string) []byte {
	t.Helper()
	b, err := hex.DecodeString(s)
	if err != nil {
		t.Fatal(err)
	}
	return b
}

// P3.1

// The first is the chapter's example; all are those of RFC 4231, but for its case 5, whose code is cut.
func TestMacExamples(t *testing.T) {
	examples := []struct{ key, text, code string }{
		{"4a656665", "what do ya want for nothing?", "5bdcc146bf60754e6a042426089575c75a003f089d2739839dec58b964ec3843"},
		{strings.Repeat("0b", 20), "Hi There", "b0344c61d8db38535ca8afceaf0bf12b881dc200c9833da726e9376c2e32cff7"},
		{strings.Repeat("aa", 20), strings.Repeat("\xdd", 50), "773ea91e36800e46854db8ebd09181a72959098b3ef8c122d9635514ced565fe"},
		{"0102030405060708090a0b0c0d0e0f10111213141516171819", strings.Repeat("\xcd", 50), "82558a389a443c0ea4cc819899f2083a85f0faa3e578f8077a2e3ff46729665b"},
		{strings.Repeat("aa", 131), "Test Using Larger Than Block-Size Key - Hash Key First", "60e431591ee0b67f0d8a26aacbf5b77f8e0bc6213728c5140546040f0ee37f54"},
		{strings.Repeat("aa", 131), "This is a test using a larger than block-size key and a larger than block-size data. The key needs to be hashed before being used by the HMAC algorithm.", "9b09ffa71b942fcb27635fbcd5b0e944bfdc63644f0713938a7f51535c3a35e2"},
		{"", "", "b613679a0814d9ec772f95d778c35fc5ff1697c493715653c6c712144292c5ad"},
	}
	for _, e := range examples {
		if code := hex.EncodeToString(Mac(unhex(t, e.key), []byte(e.text))); code != e.code {
			t.Errorf("%q under %s: %s", e.text, e.key, code)
		}
	}
}

func TestMacOfNothing(t *testing.T) {
	for _, key := range [][]byte{nil, {}} {
		for _, b := range [][]byte{nil, {}} {
			if code := Mac(key, b); !bytes.Equal(code, want(nil, nil)) {
				t.Errorf("%x", code)
			}
		}
	}
}

func TestMacOfEachLength(t *testing.T) {
	for _, k := range keyLengths() {
		for _, n := range textLengths() {
			key, b := someBytes(k), someBytes(n)
			if code := Mac(key, b); len(code) != api.HashSize || !bytes.Equal(code, want(key, b)) {
				t.Errorf("%d bytes under %d: %x", n, k, code)
			}
		}
	}
	for k := range 140 {
		for _, key := range [][]byte{make([]byte, k), bytes.Repeat([]byte{255}, k), bytes.Repeat([]byte{92}, k), bytes.Repeat([]byte{54}, k)} {
			if code := Mac(key, key); !bytes.Equal(code, want(key, key)) {
				t.Errorf("%x: %x", key, code)
			}
		}
	}
}

// The words of the chapter, without Go's own HMAC.
func TestMacByItsWords(t *testing.T) {
	for _, k := range keyLengths() {
		key, b := someBytes(k), someBytes(100)
		full := slices.Clone(key)
		if k > 64 {
			full = sha.Sum(key)
		}
		full = append(full, make([]byte, 64-len(full))...)
		var outer, inner []byte
		for _, c := range full {
			outer, inner = append(outer, c^92), append(inner, c^54)
		}
		code := sha.Sum(slices.Concat(outer, sha.Sum(slices.Concat(inner, b))))
		if !bytes.Equal(Mac(key, b), code) {
			t.Errorf("under %d bytes: %x", k, Mac(key, b))
		}
	}
}

// R3: the arguments are left as they are, also behind their ends, and the answer is the caller's.
func TestMacSharesNothing(t *testing.T) {
	for _, k := range keyLengths() {
		for _, n := range textLengths() {
			keyRoom, room := someBytes(k+100), someBytes(n+100)
			keyBefore, before := bytes.Clone(keyRoom), bytes.Clone(room)
			code := Mac(keyRoom[:k], room[:n])
			Check(keyRoom[:k], room[:n], code)
			if !bytes.Equal(keyRoom, keyBefore) || !bytes.Equal(room, before) {
				t.Fatal(k, n, "an argument was changed")
			}
			clear(keyRoom)
			clear(room)
			if !bytes.Equal(code, want(keyBefore[:k], before[:n])) {
				t.Fatal(k, n, "the answer follows an argument")
			}
			again := Mac(keyBefore[:k], before[:n])
			clear(code)
			if !bytes.Equal(again, want(keyBefore[:k], before[:n])) {
				t.Fatal(k, n, "two answers share memory")
			}
		}
	}
}

// A code can be what the next one is made of: the key and the text can be one slice.
func TestMacOfOneSlice(t *testing.T) {
	b := someBytes(64)
	for range 10 {
		code := Mac(b, b)
		if !bytes.Equal(code, want(b, b)) {
			t.Errorf("%x: %x", b, code)
		}
		b = code
	}
}

// P3.2

func TestEqual(t *testing.T) {
	for n := range 130 {
		b := someBytes(n)
		if !Equal(b, bytes.Clone(b)) || !Equal(b, b) {
			t.Errorf("%x is not itself", b)
		}
		for i := range n {
			other := bytes.Clone(b)
			other[i]++
			if Equal(b, other) || Equal(other, b) {
				t.Errorf("%x and %x are equal", b, other)
			}
		}
	}
}

func TestEqualOfEachPairOfBytes(t *testing.T) {
	for x := range 256 {
		for y := range 256 {
			if Equal([]byte{byte(x)}, []byte{byte(y)}) != (x == y) {
				t.Errorf("%d and %d", x, y)
			}
		}
	}
}

// Differences that are the same, or that would add up to nothing, are still differences.
func TestEqualOfManyDifferences(t *testing.T) {
	pairs := [][2][]byte{
		{{1, 1}, {2, 2}},
		{{0, 0}, {255, 255}},
		{{0, 255}, {255, 0}},
		{{0, 0}, {128, 128}},
		{{0, 0}, {1, 255}},
		{{1, 2, 3}, {3, 2, 1}},
		{{1, 2}, {2, 1}},
	}
	for _, p := range pairs {
		if Equal(p[0], p[1]) || Equal(p[1], p[0]) {
			t.Errorf("%v and %v are equal", p[0], p[1])
		}
	}
}

// One that begins the other is another one, also if only zero bytes follow.
func TestEqualOfOtherLengths(t *testing.T) {
	for _, b := range [][]byte{someBytes(70), make([]byte, 70)} {
		for n := range b {
			for _, m := range []int{n + 1, len(b)} {
				if Equal(b[:n], b[:m]) || Equal(b[:m], b[:n]) {
					t.Errorf("%x and %x are equal", b[:n], b[:m])
				}
			}
		}
	}
	if Equal(nil, []byte{0}) || Equal([]byte{0}, nil) {
		t.Error("a zero byte is nothing")
	}
}

// R6: nothing is nothing.
func TestEqualOfNothing(t *testing.T) {
	nothing := [][]byte{nil, {}, someBytes(3)[:0]}
	for _, a := range nothing {
		for _, b := range nothing {
			if !Equal(a, b) || Looks(a, b) != 0 {
				t.Errorf("%#v and %#v: %v, %d", a, b, Equal(a, b), Looks(a, b))
			}
		}
	}
}

func TestLooks(t *testing.T) {
	for n := range 130 {
		b := someBytes(n)
		if k := Looks(b, bytes.Clone(b)); k != n {
			t.Errorf("%d bytes: %d", n, k)
		}
		for i := range n {
			other := bytes.Clone(b)
			other[i]++
			if k := Looks(b, other); k != n {
				t.Errorf("%d bytes that differ at %d: %d", n, i, k)
			}
			if Looks(b, b[:i]) != 0 || Looks(b[:i], b) != 0 {
				t.Errorf("%d and %d bytes: %d, %d", n, i, Looks(b, b[:i]), Looks(b[:i], b))
			}
		}
	}
	if Looks(someBytes(32), someBytes(33)) != 0 || Looks(nil, someBytes(1)) != 0 || Looks(someBytes(1), nil) != 0 {
		t.Error("other lengths are compared")
	}
	if k := Looks(make([]byte, 1<<20), bytes.Repeat([]byte{1}, 1<<20)); k != 1<<20 {
		t.Error(k)
	}
}

// R3: what is compared is left as it is.
func TestEqualLeavesItsArguments(t *testing.T) {
	a, b := someBytes(40), someBytes(41)
	before, after := bytes.Clone(a), bytes.Clone(b)
	Equal(a, b[:40])
	Looks(a, b[:40])
	Equal(a, b)
	Looks(a, b)
	if !bytes.Equal(a, before) || !bytes.Equal(b, after) {
		t.Error("an argument was changed")
	}
}

// P3.3 and P3.4

func TestCheckTakesMac(t *testing.T) {
	for _, k := range keyLengths() {
		for _, n := range textLengths() {
			key, b := someBytes(k), someBytes(n)
			if !Check(key, b, Mac(key, b)) || !Check(key, b, want(key, b)) {
				t.Errorf("%d bytes under %d", n, k)
			}
		}
	}
	if !Check(nil, nil, Mac(nil, nil)) || !Check([]byte{}, []byte{}, Mac(nil, nil)) {
		t.Error("nothing")
	}
}

// Each byte of the code, changed to each other one.
func TestCheckOfAChangedCode(t *testing.T) {
	key, b := []byte("Jefe"), []byte("what do ya want for nothing?")
	code := Mac(key, b)
	for i := range code {
		for x := range 256 {
			other := bytes.Clone(code)
			other[i] = byte(x)
			if Check(key, b, other) != (byte(x) == code[i]) {
				t.Errorf("byte %d as %d", i, x)
			}
		}
	}
}

func TestCheckOfOtherCodes(t *testing.T) {
	key, b := []byte("key"), []byte("text")
	code := Mac(key, b)
	others := map[string][]byte{
		"nil":                  nil,
		"empty":                {},
		"without its end":      code[:31],
		"without its front":    code[1:],
		"a byte":               code[:1],
		"a zero byte behind":   append(bytes.Clone(code), 0),
		"a zero byte ahead":    append([]byte{0}, code...),
		"twice":                append(bytes.Clone(code), code...),
		"zero bytes":           make([]byte, 32),
		"the hash of the text": sha.Sum(b),
		"of the other's key":   Mac([]byte("Key"), b),
		"of another text":      Mac(key, []byte("Text")),
		"key and text changed": Mac(b, key),
		"as hexadecimal text":  []byte(hex.EncodeToString(code)),
	}
	for name, other := range others {
		if Check(key, b, other) {
			t.Error(name, "was taken")
		}
	}
}

func TestCheckOfAChangedKeyOrText(t *testing.T) {
	for _, k := range keyLengths() {
		key, b := someBytes(k), someBytes(80)
		code := Mac(key, b)
		for i := range key {
			other := bytes.Clone(key)
			other[i] ^= 1
			if Check(other, b, code) {
				t.Errorf("a key of %d bytes, changed at %d, was taken", k, i)
			}
		}
		for i := range b {
			other := bytes.Clone(b)
			other[i] ^= 128
			if Check(key, other, code) {
				t.Errorf("a text, changed at %d, was taken", i)
			}
		}
	}
}

// Check is Equal of Mac, whatever the code.
func TestCheckIsEqualOfMac(t *testing.T) {
	r := rand.New(rand.NewSource(3))
	for range 2000 {
		key, b := someBytes(r.Intn(80)), someBytes(r.Intn(80))
		code := Mac(key, b)
		if r.Intn(2) == 0 {
			code[r.Intn(len(code))] ^= byte(r.Intn(256))
		}
		code = code[:len(code)-r.Intn(2)]
		if Check(key, b, code) != Equal(Mac(key, b), code) || Check(key, b, code) != bytes.Equal(want(key, b), code) {
			t.Errorf("%x, %x, %x: %v", key, b, code, Check(key, b, code))
		}
	}
}

func TestZeroBytesBehindAKey(t *testing.T) {
	b := someBytes(70)
	for k := range 65 {
		key := someBytes(k)
		for n := k; n <= 64; n++ {
			longer := append(bytes.Clone(key), make([]byte, n-k)...)
			if !bytes.Equal(Mac(longer, b), Mac(key, b)) || !Check(longer, b, Mac(key, b)) {
				t.Errorf("a key of %d bytes, with %d zero bytes behind it", k, n-k)
			}
		}
		// With 65 bytes it is hashed, so that it is another key.
		longest := append(bytes.Clone(key), make([]byte, 65-k)...)
		if bytes.Equal(Mac(longest, b), Mac(key, b)) || Check(longest, b, Mac(key, b)) {
			t.Errorf("a key of %d bytes, with zero bytes up to 65, counts as the same", k)
		}
	}
}

func TestZeroBytesAheadOfAKey(t *testing.T) {
	key, b := someBytes(20), someBytes(70)
	if Check(append([]byte{0}, key...), b, Mac(key, b)) {
		t.Error("a zero byte ahead does not count")
	}
}

// A key of more than 64 bytes counts as its hash, one of 64 does not.
func TestLongKeysCountAsTheirHash(t *testing.T) {
	b := someBytes(70)
	for k := range 200 {
		key := someBytes(k)
		if bytes.Equal(Mac(key, b), Mac(sha.Sum(key), b)) != (k > 64) {
			t.Errorf("a key of %d bytes", k)
		}
	}
}

// Fuzz: any keys, texts and codes.
func FuzzMac(f *testing.F) {
	f.Add([]byte(nil), []byte(nil), []byte(nil))
	f.Add([]byte("Jefe"), []byte("what do ya want for nothing?"), someBytes(32))
	f.Add(someBytes(65), someBytes(130), someBytes(31))
	f.Fuzz(func(t *testing.T, key, b, code []byte) {
		if !bytes.Equal(Mac(key, b), want(key, b)) {
			t.Errorf("%x under %x: %x", b, key, Mac(key, b))
		}
		if !Check(key, b, Mac(key, b)) || Check(key, b, code) != bytes.Equal(want(key, b), code) {
			t.Errorf("%x under %x, checked", b, key)
		}
		if Equal(b, code) != bytes.Equal(b, code) {
			t.Errorf("%x and %x: %v", b, code, Equal(b, code))
		}
		looks := 0
		if len(b) == len(code) {
			looks = len(b)
		}
		if Looks(b, code) != looks {
			t.Errorf("%x and %x: %d", b, code, Looks(b, code))
		}
	})
}
