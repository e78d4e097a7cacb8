package frame

import (
	"bytes"
	"encoding/binary"
	"encoding/hex"
	"hash/crc32"
	"math"
	"math/rand"
	"slices"
	"strings"
	"testing"

	"concierge/api"
)

// The calls as the chapter lists them: another signature does not compile.
var (
	_ func(f api.Frame) []byte              = Encode
	_ func(b []byte) (api.Frame, int)       = Decode
	_ func(n int) int                       = Size
	_ func(l []api.Put) []byte              = Batch
	_ func(b []byte) ([]api.Put, api.Errno) = Puts
	_ [api.MaxRecord]byte                   = [65536]byte{}
	_ [api.MaxGen >> 50]byte                = [1024]byte{}
)

const maxGen = 1152921504606846976 // 2^60

// The lengths of data at which the number ahead of them gets a byte more, the greatest one, and those beside them.
var someSizes = []int{0, 1, 2, 31, 63, 64, 126, 127, 128, 129, 255, 256, 16382, 16383, 16384, 16385, 65534, 65535, 65536}

// What a Gen or a Seq can be.
var someNumbers = []int{0, 1, 2, 255, 256, 65535, 1 << 32, 0x0102030405060708, maxGen - 1, maxGen}

// What neither a Gen nor a Seq can be.
var wrongNumbers = []int{-1, -2, math.MinInt, math.MinInt + 1, -maxGen, maxGen + 1, maxGen + 2, 2 * maxGen, math.MaxInt}

func unhex(t *testing.T, s string) []byte {
	t.Helper()
	b, err := hex.DecodeString(strings.ReplaceAll(s, " ", ""))
	if err != nil {
		t.Fatal(err)
	}
	return b
}

// someBytes returns n bytes, the same in each run.
func someBytes(n int) []byte {
	b := make([]byte, n)
	rand.New(rand.NewSource(int64(n) + 1)).Read(b)
	return b
}

// summed returns b with its checksum behind it.
func summed(b []byte) []byte {
	return binary.BigEndian.AppendUint32(bytes.Clone(b), crc32.ChecksumIEEE(b))
}

// byWords is a frame by the words of the chapter, without its limits, with any mark and with any bytes as the number ahead of the data.
func byWords(mark byte, number []byte, gen, seq uint64, data []byte) []byte {
	b := append([]byte{mark}, number...)
	b = binary.BigEndian.AppendUint64(b, gen)
	b = binary.BigEndian.AppendUint64(b, seq)
	return summed(append(b, data...))
}

// groups is a number in groups of seven bits.
func groups(n int) []byte {
	return binary.AppendUvarint(nil, uint64(n))
}

// code is a frame by the words of the chapter, without its limits.
func code(f api.Frame) []byte {
	return byWords(245, groups(len(f.Data)), uint64(f.Gen), uint64(f.Seq), f.Data)
}

func sameFrame(a, b api.Frame) bool {
	return a.Gen == b.Gen && a.Seq == b.Seq && bytes.Equal(a.Data, b.Data)
}

// isNone fails unless b begins with no frame.
func isNone(t *testing.T, what string, b []byte) {
	t.Helper()
	if f, size := Decode(b); size != 0 || f.Gen != 0 || f.Seq != 0 || len(f.Data) != 0 {
		t.Errorf("%s: %d, %d, %d bytes of data, size %d", what, f.Gen, f.Seq, len(f.Data), size)
	}
}

// P6.1

// The first is the chapter's example.
func TestEncodeExamples(t *testing.T) {
	examples := []struct {
		f api.Frame
		b string
	}{
		{api.Frame{Gen: 1}, "f5 00 00000000 00000001 00000000 00000000"},
		{api.Frame{}, "f5 00 00000000 00000000 00000000 00000000"},
		{api.Frame{Seq: 1, Data: []byte{}}, "f5 00 00000000 00000000 00000000 00000001"},
		{api.Frame{Gen: 2, Seq: 3, Data: []byte("ab")}, "f5 02 00000000 00000002 00000000 00000003 61 62"},
		{api.Frame{Gen: 0x0102030405060708, Seq: 258, Data: []byte{0, 245}}, "f5 02 01020304 05060708 00000000 00000102 00 f5"},
		{api.Frame{Gen: maxGen, Seq: maxGen}, "f5 00 10000000 00000000 10000000 00000000"},
		{api.Frame{Data: make([]byte, 300)}, "f5 ac02 00000000 00000000 00000000 00000000" + strings.Repeat("00", 300)},
	}
	for _, e := range examples {
		if b := Encode(e.f); !bytes.Equal(b, summed(unhex(t, e.b))) {
			t.Errorf("%v: % x", e.f, b)
		}
	}
}

// The chapter's first example whole, with its checksum as a number.
func TestEncodeWhole(t *testing.T) {
	if b := Encode(api.Frame{Gen: 1}); hex.EncodeToString(b) != "f50000000000000000010000000000000000f399c820" {
		t.Errorf("%x", b)
	}
}

func TestEncodeByItsWords(t *testing.T) {
	for _, n := range someSizes {
		data := someBytes(n)
		for _, gen := range someNumbers {
			f := api.Frame{Gen: gen, Seq: someNumbers[(n+gen%7)%len(someNumbers)], Data: data}
			if b := Encode(f); !bytes.Equal(b, code(f)) || len(b) != Size(n) {
				t.Errorf("%d, %d, %d bytes: %d bytes, %d by Size", f.Gen, f.Seq, n, len(b), Size(n))
			}
		}
	}
	for _, gen := range someNumbers {
		for _, seq := range someNumbers {
			f := api.Frame{Gen: gen, Seq: seq, Data: []byte("data")}
			if b := Encode(f); !bytes.Equal(b, code(f)) {
				t.Errorf("%d, %d: % x", gen, seq, b)
			}
		}
	}
}

func TestEncodeBeyondTheLimits(t *testing.T) {
	for _, wrong := range wrongNumbers {
		for _, other := range append(someNumbers, wrongNumbers...) {
			for _, data := range [][]byte{nil, []byte("ab"), make([]byte, 65536), make([]byte, 65537)} {
				if b := Encode(api.Frame{Gen: wrong, Seq: other, Data: data}); len(b) != 0 {
					t.Errorf("Gen %d, Seq %d, %d bytes: %d bytes", wrong, other, len(data), len(b))
				}
				if b := Encode(api.Frame{Gen: other, Seq: wrong, Data: data}); len(b) != 0 {
					t.Errorf("Gen %d, Seq %d, %d bytes: %d bytes", other, wrong, len(data), len(b))
				}
			}
		}
	}
	for _, n := range []int{65537, 65538, 1 << 17, 1 << 20} {
		if b := Encode(api.Frame{Gen: 1, Seq: 1, Data: make([]byte, n)}); len(b) != 0 {
			t.Errorf("%d bytes of data: %d bytes", n, len(b))
		}
	}
}

func TestSize(t *testing.T) {
	examples := []struct{ n, size int }{
		{0, 22}, {1, 23}, {2, 24}, {127, 149}, {128, 151}, {16383, 16406}, {16384, 16408}, {65535, 65559}, {65536, 65560},
		{-1, 0}, {-2, 0}, {-22, 0}, {math.MinInt, 0}, {65537, 0}, {65538, 0}, {1 << 20, 0}, {1<<32 + 1, 0}, {math.MaxInt, 0},
	}
	for _, e := range examples {
		if size := Size(e.n); size != e.size {
			t.Errorf("%d: %d", e.n, size)
		}
	}
}

func TestSizeIsThatOfEncode(t *testing.T) {
	for n := range 700 {
		if b := Encode(api.Frame{Gen: 1, Data: make([]byte, n)}); len(b) != Size(n) || len(b) == 0 {
			t.Errorf("%d: %d, %d bytes", n, Size(n), len(b))
		}
	}
	for n := range 65537 {
		if size := Size(n); size != 21+len(groups(n))+n {
			t.Fatalf("%d: %d", n, size)
		}
	}
}

// R3: the data are left as they are, also behind their end, and the answers are the caller's.
func TestEncodeSharesNothing(t *testing.T) {
	room := []byte("abcdefgh")
	f := api.Frame{Gen: 1, Seq: 2, Data: room[:3]}
	b := Encode(f)
	again := Encode(f)
	if string(room) != "abcdefgh" {
		t.Errorf("the data were changed: %q", room)
	}
	clear(b[:cap(b)])
	if string(room) != "abcdefgh" {
		t.Errorf("the data follow the answer: %q", room)
	}
	clear(room)
	if want := code(api.Frame{Gen: 1, Seq: 2, Data: []byte("abc")}); !bytes.Equal(again, want) {
		t.Errorf("the answer follows the data or another answer: % x", again)
	}
}

// P6.2 and P6.4

// behinds are what may follow a frame.
func behinds(frame []byte) [][]byte {
	return [][]byte{nil, {0}, {245}, {255}, make([]byte, 100), frame, someBytes(200), frame[:len(frame)-1]}
}

func TestDecodeInvertsEncode(t *testing.T) {
	for _, n := range someSizes {
		for i, gen := range someNumbers {
			f := api.Frame{Gen: gen, Seq: someNumbers[(n+i)%len(someNumbers)], Data: someBytes(n)}
			b := code(f)
			for _, behind := range behinds(b) {
				if got, size := Decode(slices.Concat(b, behind)); size != len(b) || size != Size(n) || !sameFrame(got, f) {
					t.Errorf("%d, %d, %d bytes: %d, %d, %d bytes, size %d", f.Gen, f.Seq, n, got.Gen, got.Seq, len(got.Data), size)
				}
			}
		}
	}
}

func TestDecodeOfSomeFrames(t *testing.T) {
	r := rand.New(rand.NewSource(6))
	for range 2000 {
		f := api.Frame{Gen: r.Intn(maxGen) >> r.Intn(60), Seq: r.Intn(maxGen) >> r.Intn(60), Data: make([]byte, r.Intn(300))}
		r.Read(f.Data)
		b := Encode(f)
		behind := make([]byte, r.Intn(40))
		r.Read(behind)
		if got, size := Decode(append(b, behind...)); size != len(b) || !sameFrame(got, f) {
			t.Errorf("%v: %v, size %d", f, got, size)
		}
	}
}

// What is cut off is none, whatever the number ahead of the data.
func TestDecodeOfBeginnings(t *testing.T) {
	for _, n := range []int{0, 1, 127, 128, 300} {
		b := code(api.Frame{Gen: 5, Seq: 6, Data: someBytes(n)})
		for k := range b {
			isNone(t, "cut off", b[:k])
			isNone(t, "cut off at its beginning", b[k+1:])
		}
		for i := range b {
			isNone(t, "without a byte", slices.Concat(b[:i], b[i+1:]))
		}
	}
	long := code(api.Frame{Gen: 5, Seq: 6, Data: make([]byte, 65536)})
	for _, k := range []int{1, 2, 3, 4, 5, 20, 1000, len(long) - 4, len(long) - 1} {
		isNone(t, "cut off", long[:k])
	}
	isNone(t, "nil", nil)
	isNone(t, "empty", []byte{})
}

// Each other byte in any place leaves no frame, also in the checksum.
func TestDecodeOfAnotherByte(t *testing.T) {
	for _, data := range []string{"", "a", "abc"} {
		b := code(api.Frame{Gen: 3, Seq: 1, Data: []byte(data)})
		for i := range b {
			for c := range 256 {
				other := bytes.Clone(b)
				other[i] = byte(c)
				if byte(c) != b[i] {
					isNone(t, "another byte", append(other, 0, 0, 0, 0))
				}
			}
		}
	}
}

// Only 245 begins a frame, also where the checksum is that of the bytes: a zero byte does not.
func TestDecodeOfAnotherMark(t *testing.T) {
	for mark := range 256 {
		b := byWords(byte(mark), []byte{2}, 1, 0, []byte("ab"))
		if mark != 245 {
			isNone(t, "another mark", b)
		} else if f, size := Decode(b); size != len(b) || !sameFrame(f, api.Frame{Gen: 1, Data: []byte("ab")}) {
			t.Errorf("%v, size %d", f, size)
		}
	}
	for _, n := range []int{1, 17, 18, 22, 64, 200} {
		isNone(t, "zero bytes", make([]byte, n))
	}
	b := code(api.Frame{Gen: 1, Data: []byte("ab")})
	isNone(t, "a zero byte ahead", append([]byte{0}, b...))
}

func TestDecodeOfWrongNumbers(t *testing.T) {
	for _, wrong := range wrongNumbers {
		for _, other := range append(someNumbers, wrongNumbers...) {
			isNone(t, "Gen", byWords(245, []byte{1}, uint64(wrong), uint64(other), []byte("a")))
			isNone(t, "Seq", byWords(245, []byte{1}, uint64(other), uint64(wrong), []byte("a")))
		}
	}
}

// The length is that of the data, in as few groups as possible, and at most 65536.
func TestDecodeOfWrongLengths(t *testing.T) {
	data := someBytes(200)
	for n := range 400 {
		b := byWords(245, groups(n), 1, 2, data)
		if n == len(data) {
			continue
		}
		isNone(t, "another length", append(b, make([]byte, 300)...))
	}
	wrong := []string{
		"80 00",                         // 0 in two groups
		"81 00",                         // 1 in two groups
		"81 80 00",                      // 1 in three groups
		"80 80 80 80 80 80 80 80 80 00", // 0 in ten groups
		"80",                            // what follows is the last group
		"ff",                            // the same
		"80 80 04",                      // 65536, with fewer data
		"81 80 04",                      // 65537
		"80 80 80 80 10",                // 2^32
		"ff ff ff ff 0f",                // 2^32 - 1
		"ff ff ff ff ff ff ff ff 7f",    // the greatest number
		"fe ff ff ff ff ff ff ff 7f",    // the one below it
		"ea ff ff ff ff ff ff ff 7f",    // it passes the greatest number with what else a frame has
		"ff ff ff ff ff ff ff ff ff",    // no number: no last group
		"ff ff ff ff ff ff ff ff ff 01", // no number: ten groups
	}
	for _, s := range wrong {
		for _, data := range []string{"", "a", strings.Repeat("a", 300)} {
			isNone(t, s, byWords(245, unhex(t, s), 1, 0, []byte(data)))
		}
	}
	for _, n := range []int{65537, 65538, 1 << 17} {
		isNone(t, "data that are too long", code(api.Frame{Gen: 1, Data: make([]byte, n)}))
	}
}

// Another order of the checksum's bytes, or one of other bytes, is none.
func TestDecodeOfAnotherChecksum(t *testing.T) {
	b := code(api.Frame{Gen: 1, Seq: 2, Data: []byte("abc")})
	n := len(b) - 4
	turned := bytes.Clone(b)
	slices.Reverse(turned[n:])
	isNone(t, "least significant byte first", turned)
	isNone(t, "of the data only", binary.BigEndian.AppendUint32(bytes.Clone(b[:n]), crc32.ChecksumIEEE([]byte("abc"))))
	isNone(t, "without the mark", binary.BigEndian.AppendUint32(bytes.Clone(b[:n]), crc32.ChecksumIEEE(b[1:n])))
	isNone(t, "without a checksum", append(bytes.Clone(b[:n]), 0, 0, 0, 0))
}

// R3 and P6.2: the data share no memory with the bytes, nor with another answer.
func TestDecodeSharesNothing(t *testing.T) {
	b := code(api.Frame{Gen: 1, Seq: 2, Data: []byte("abc")})
	before := bytes.Clone(b)
	f, size := Decode(b)
	again, _ := Decode(b)
	if size != len(b) || !bytes.Equal(b, before) {
		t.Fatalf("size %d, % x", size, b)
	}
	clear(b)
	if string(f.Data) != "abc" {
		t.Errorf("the data follow the bytes: %q", f.Data)
	}
	b = bytes.Clone(before)
	f, _ = Decode(b)
	clear(f.Data[:cap(f.Data)])
	_ = append(f.Data[:0], "xyzxyz"...)
	if !bytes.Equal(b, before) || string(again.Data) != "abc" {
		t.Errorf("the bytes or another answer follow the data: % x, %q", b, again.Data)
	}
}

// A row of frames is read one by one, up to the zero bytes.
func TestDecodeOfManyFrames(t *testing.T) {
	var b []byte
	for i := range 50 {
		b = append(b, Encode(api.Frame{Gen: 7, Seq: i, Data: someBytes(i * 5)})...)
	}
	b = append(b, make([]byte, 64)...)
	for i := range 50 {
		f, size := Decode(b)
		if size != Size(i*5) || !sameFrame(f, api.Frame{Gen: 7, Seq: i, Data: someBytes(i * 5)}) {
			t.Fatalf("%d: %v, size %d", i, f, size)
		}
		b = b[size:]
	}
	isNone(t, "behind the last one", b)
}
