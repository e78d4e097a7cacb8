package sha

import (
	"bytes"
	"crypto/sha256"
	"encoding/hex"
	"math/big"
	"math/rand"
	"slices"
	"strings"
	"testing"

	"concierge/api"
)

// The calls as the chapter lists them: another signature does not compile.
var (
	_ func([]byte) []byte  = Sum
	_ func() *State        = New
	_ func(*State, []byte) = (*State).Write
	_ func(*State) []byte  = (*State).Sum
	_ func(*State) *State  = (*State).Copy
	_ func(*State) int     = (*State).Len
	_ func() []uint32      = Constants
	_ func() []uint32      = Start
)

// someBytes returns n bytes, the same in each run.
func someBytes(n int) []byte {
	b := make([]byte, n)
	rand.New(rand.NewSource(int64(n) + 1)).Read(b)
	return b
}

// edgeLengths are the lengths at which the padding changes the number of blocks, in the first three of them, and those beside.
func edgeLengths() []int {
	out := []int{0, 1, 2, 3}
	for k := range 3 {
		for _, n := range []int{54, 55, 56, 57, 62, 63, 64, 65} {
			out = append(out, 64*k+n)
		}
	}
	return append(out, 1000, 4096, 65535)
}

func want(b []byte) []byte {
	h := sha256.Sum256(b)
	return h[:]
}

// stateOf returns a state whose input is b, by one Write.
func stateOf(b []byte) *State {
	s := New()
	s.Write(b)
	return s
}

// holds fails unless the state has the input b.
func holds(t *testing.T, what string, s *State, b []byte) {
	t.Helper()
	if s.Len() != len(b) {
		t.Errorf("%s: Len is %d, not %d", what, s.Len(), len(b))
	}
	if h := s.Sum(); !bytes.Equal(h, want(b)) {
		t.Errorf("%s: Sum of %d bytes is %x", what, len(b), h)
	}
}

// P2.1

func primes(n int) []int64 {
	var out []int64
	for k := int64(2); len(out) < n; k++ {
		if big.NewInt(k).ProbablyPrime(0) {
			out = append(out, k)
		}
	}
	return out
}

// root32 returns the first 32 bits after the binary point of the root of p of that power: the greatest n with n^power <= p*2^(32*power), without what stands ahead of the point.
func root32(p int64, power int) uint32 {
	most := new(big.Int).Lsh(big.NewInt(p), uint(32*power))
	n := new(big.Int)
	for bit := 40; bit >= 0; bit-- {
		m := new(big.Int).SetBit(n, bit, 1)
		if new(big.Int).Exp(m, big.NewInt(int64(power)), nil).Cmp(most) <= 0 {
			n = m
		}
	}
	return uint32(n.Uint64())
}

func TestStart(t *testing.T) {
	got := Start()
	if len(got) != 8 {
		t.Fatal(len(got))
	}
	for i, p := range primes(8) {
		if got[i] != root32(p, 2) {
			t.Errorf("%d: %08x", i, got[i])
		}
	}
	if got[0] != 0x6a09e667 || got[7] != 0x5be0cd19 {
		t.Errorf("%08x", got)
	}
}

func TestConstants(t *testing.T) {
	got := Constants()
	if len(got) != 64 {
		t.Fatal(len(got))
	}
	for i, p := range primes(64) {
		if got[i] != root32(p, 3) {
			t.Errorf("%d: %08x", i, got[i])
		}
	}
	if got[0] != 0x428a2f98 || got[63] != 0xc67178f2 {
		t.Errorf("%08x", got)
	}
}

// R3: what was answered can be changed without changing later answers.
func TestWordsBelongToTheCaller(t *testing.T) {
	for name, call := range map[string]func() []uint32{"Start": Start, "Constants": Constants} {
		a, b := call(), call()
		clear(a)
		if slices.Equal(a, b) || !slices.Equal(b, call()) {
			t.Error(name, "hands out what it keeps")
		}
	}
	if h := Sum(nil); !bytes.Equal(h, want(nil)) {
		t.Errorf("the hash follows the words that were handed out: %x", h)
	}
}

// P2.2

func TestSumExamples(t *testing.T) {
	examples := map[string]string{
		"":    "e3b0c44298fc1c149afbf4c8996fb92427ae41e4649b934ca495991b7852b855",
		"abc": "ba7816bf8f01cfea414140de5dae2223b00361a396177a9cb410ff61f20015ad",
		// 56 bytes: the padding needs a second block.
		"abcdbcdecdefdefgefghfghighijhijkijkljklmklmnlmnomnopnopq": "248d6a61d20638b8e5c026930c3e6039a33ce45964ff2167f6ecedd419db06c1",
		strings.Repeat("a", 1000000):                               "cdc76e5c9914fb9281a1c7e284d73e67f1809a48a497200e046d39ccc7112cd0",
	}
	for s, hash := range examples {
		if h := hex.EncodeToString(Sum([]byte(s))); h != hash {
			t.Errorf("%d bytes: %s", len(s), h)
		}
	}
}

func TestSumOfNothing(t *testing.T) {
	if !bytes.Equal(Sum(nil), want(nil)) || !bytes.Equal(Sum([]byte{}), want(nil)) {
		t.Error("nil and no bytes are hashed otherwise")
	}
}

func TestSumOfEachLength(t *testing.T) {
	for n := range 300 {
		for _, b := range [][]byte{someBytes(n), make([]byte, n), bytes.Repeat([]byte{255}, n), bytes.Repeat([]byte{128}, n)} {
			if h := Sum(b); len(h) != api.HashSize || !bytes.Equal(h, want(b)) {
				t.Errorf("%d bytes, %x: %x", n, b, h)
			}
		}
	}
	for _, n := range edgeLengths() {
		if h := Sum(someBytes(n)); !bytes.Equal(h, want(someBytes(n))) {
			t.Errorf("%d bytes: %x", n, h)
		}
	}
}

func TestSumOfEachByte(t *testing.T) {
	for c := range 256 {
		if b := []byte{byte(c)}; !bytes.Equal(Sum(b), want(b)) {
			t.Errorf("%x: %x", b, Sum(b))
		}
	}
}

// The length has eight bytes: from 2^29 bytes on, its bits do not fit four.
func TestLengthOfManyBits(t *testing.T) {
	for _, n := range []int{0, 1, 55, 56, 63, 64, 65, 1<<29 - 1, 1 << 29, 1<<31 - 1} {
		pad := padding(n)
		if (n+len(pad))%64 != 0 || len(pad) < 9 || len(pad) > 72 || pad[0] != 128 {
			t.Errorf("%d: %x", n, pad)
		}
		bits := new(big.Int).Mul(big.NewInt(int64(n)), big.NewInt(8))
		if new(big.Int).SetBytes(pad[1:]).Cmp(bits) != 0 {
			t.Errorf("%d: %x", n, pad)
		}
	}
}

// R3, R5: the argument is left as it is, and the answer is the caller's.
func TestSumSharesNothing(t *testing.T) {
	for _, n := range edgeLengths() {
		room := someBytes(n + 100)
		before := bytes.Clone(room)
		h := Sum(room[:n])
		if !bytes.Equal(room, before) {
			t.Fatal(n, "the argument was changed")
		}
		clear(room)
		if !bytes.Equal(h, want(before[:n])) {
			t.Error(n, "the answer follows the argument")
		}
		again := Sum(before[:n])
		clear(h)
		if !bytes.Equal(again, want(before[:n])) || !bytes.Equal(Sum(before[:n]), want(before[:n])) {
			t.Error(n, "two answers share memory")
		}
	}
}

// P2.3

func TestNew(t *testing.T) {
	holds(t, "new", New(), nil)
	s := New()
	s.Write([]byte("abc"))
	holds(t, "new beside one with input", New(), nil)
}

func TestWriteNothing(t *testing.T) {
	for _, n := range edgeLengths() {
		b := someBytes(n)
		s := New()
		s.Write(nil)
		s.Write([]byte{})
		s.Write(b)
		s.Write(nil)
		s.Write([]byte{})
		holds(t, "nothing ahead and behind", s, b)
	}
}

// The input is appended while Len and Sum are asked at each step: neither changes the state.
func TestWriteByteByByte(t *testing.T) {
	b := someBytes(300)
	s := New()
	for i := range b {
		holds(t, "ahead of a byte", s, b[:i])
		holds(t, "asked again", s, b[:i])
		s.Write(b[i : i+1])
	}
	holds(t, "at the end", s, b)
}

func TestSumLeavesTheState(t *testing.T) {
	for _, n := range edgeLengths() {
		b := someBytes(n)
		s := stateOf(b)
		before := *s
		first := s.Sum()
		if *s != before {
			t.Error(n, "Sum changed the state")
		}
		clear(first)
		holds(t, "after a sum that was changed", s, b)
		s.Len()
		s.Copy()
		if *s != before {
			t.Error(n, "Len or Copy changed the state")
		}
	}
}

// R3: what was written is neither changed nor kept.
func TestWriteKeepsNothing(t *testing.T) {
	for _, n := range edgeLengths() {
		room := someBytes(n + 70)
		before := bytes.Clone(room)
		s := New()
		s.Write(room[:n])
		s.Sum()
		if !bytes.Equal(room, before) {
			t.Fatal(n, "the argument was changed")
		}
		clear(room)
		holds(t, "after the argument was changed", s, before[:n])
	}
}

func TestCopy(t *testing.T) {
	for _, n := range edgeLengths() {
		for _, more := range []int{0, 1, 8, 9, 63, 64, 65, 200} {
			b, left, right := someBytes(n), someBytes(more), bytes.Repeat([]byte{'r'}, more+1)
			s := stateOf(b)
			c := s.Copy()
			if c == s {
				t.Fatal("the same state")
			}
			holds(t, "copy", c, b)
			s.Write(left)
			holds(t, "copy, after the first went on", c, b)
			c.Write(right)
			holds(t, "first, after the copy went on", s, slices.Concat(b, left))
			holds(t, "copy that went on", c, slices.Concat(b, right))
			d := c.Copy()
			d.Write(left)
			holds(t, "copy of the copy", d, slices.Concat(b, right, left))
			holds(t, "copy, after its own went on", c, slices.Concat(b, right))
		}
	}
}

// R1: a state that New did not make can be asked as well.
func TestStatesThatNewDidNotMake(t *testing.T) {
	var none *State
	none.Write([]byte("abc"))
	holds(t, "nil", none, nil)
	c := none.Copy()
	holds(t, "copy of nil", c, nil)
	c.Write([]byte("abc"))
	holds(t, "copy of nil that went on", c, []byte("abc"))
	for _, n := range edgeLengths() {
		var zero State
		holds(t, "zero value", &zero, nil)
		zero.Write(someBytes(n))
		holds(t, "zero value that went on", &zero, someBytes(n))
	}
}

// P2.4

func TestTwoPieces(t *testing.T) {
	for _, n := range []int{0, 1, 55, 56, 63, 64, 65, 119, 120, 127, 128, 129, 200} {
		b := someBytes(n)
		for cut := range n + 1 {
			s := New()
			s.Write(b[:cut])
			s.Write(b[cut:])
			if !bytes.Equal(s.Sum(), Sum(b)) || s.Len() != n {
				t.Errorf("%d bytes, cut at %d", n, cut)
			}
		}
	}
}

func TestPiecesOfOneSize(t *testing.T) {
	b := someBytes(1000)
	for size := 1; size <= 130; size++ {
		s := New()
		for piece := range slices.Chunk(b, size) {
			s.Write(piece)
		}
		holds(t, "pieces of one size", s, b)
		if *s != *stateOf(b) {
			t.Error(size, "another state than by one Write")
		}
	}
}

func TestPiecesOfAnySize(t *testing.T) {
	r := rand.New(rand.NewSource(7))
	for range 500 {
		b := someBytes(r.Intn(1000))
		s := New()
		for at := 0; at < len(b); {
			n := min(len(b)-at, r.Intn(150))
			s.Write(b[at : at+n])
			at += n
		}
		if !bytes.Equal(s.Sum(), Sum(b)) {
			t.Errorf("%d bytes: %x", len(b), s.Sum())
		}
		holds(t, "pieces of any size", s, b)
	}
}

// Fuzz: any bytes, cut anywhere, with a copy and a sum between.
func FuzzState(f *testing.F) {
	f.Add([]byte(nil), uint(0))
	f.Add([]byte("abc"), uint(1))
	f.Add(someBytes(130), uint(64))
	f.Fuzz(func(t *testing.T, b []byte, at uint) {
		cut := int(at % uint(len(b)+1))
		s := New()
		s.Write(b[:cut])
		c := s.Copy()
		s.Sum()
		s.Write(b[cut:])
		holds(t, "whole", s, b)
		holds(t, "copy", c, b[:cut])
		if !bytes.Equal(Sum(b), want(b)) {
			t.Errorf("%x", b)
		}
	})
}
