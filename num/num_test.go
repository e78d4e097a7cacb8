package num

import (
	"bytes"
	"encoding/binary"
	"encoding/hex"
	"hash/crc32"
	"math"
	"math/rand"
	"strconv"
	"strings"
	"testing"

	"concierge/api"
)

// The calls as the chapter lists them: another signature does not compile.
var (
	_ func([]byte) string           = Hex
	_ func(string) ([]byte, bool)   = Unhex
	_ func(int) string              = Show
	_ func(string) (int, bool)      = Parse
	_ func([]byte, int) []byte      = Put
	_ func([]byte) (int, int)       = Get
	_ func(int) []byte              = Wide
	_ func([]byte) (int, api.Errno) = Narrow
	_ func([]byte) uint32           = Crc
)

// edgeNumbers are the numbers beside each power of two and of ten, of both signs.
func edgeNumbers() []int {
	out := []int{math.MinInt, math.MinInt + 1, math.MaxInt - 1, math.MaxInt}
	for i := range 63 {
		p := 1 << i
		out = append(out, p-1, p, p+1, -p, -p-1, 1-p)
	}
	p := 1
	for range 18 {
		p *= 10
		out = append(out, p-1, p, p+1, 1-p, -p, -p-1)
	}
	return out
}

// someBytes are byte strings of all lengths to 40, the same in each run.
func someBytes() [][]byte {
	r := rand.New(rand.NewSource(1))
	out := [][]byte{nil, {}}
	for n := range 41 {
		for range 20 {
			b := make([]byte, n)
			r.Read(b)
			out = append(out, b)
		}
	}
	return out
}

// P1.1

func TestHex(t *testing.T) {
	if s := Hex([]byte{0x0a, 0xff}); s != "0aff" {
		t.Error(s)
	}
	if Hex(nil) != "" || Hex([]byte{}) != "" {
		t.Error("no bytes have a text")
	}
	for c := range 256 {
		if s := Hex([]byte{byte(c)}); s != hex.EncodeToString([]byte{byte(c)}) {
			t.Error(c, s)
		}
	}
	for _, b := range someBytes() {
		if s := Hex(b); s != hex.EncodeToString(b) {
			t.Errorf("%x: %s", b, s)
		}
	}
}

func TestUnhex(t *testing.T) {
	for s, want := range map[string]string{"": "", "0a": "\x0a", "0aff": "\x0a\xff", "f00d": "\xf0\x0d", "0123456789abcdef": "\x01\x23\x45\x67\x89\xab\xcd\xef"} {
		if b, is := Unhex(s); !is || string(b) != want {
			t.Errorf("%q: %x %v", s, b, is)
		}
	}
}

func TestUnhexTakesOnlyItsCharacters(t *testing.T) {
	for c := range 256 {
		is := strings.IndexByte("0123456789abcdef", byte(c)) >= 0
		for _, s := range []string{string([]byte{byte(c), '0'}), string([]byte{'0', byte(c)}), "00" + string([]byte{'f', byte(c)}) + "00"} {
			b, got := Unhex(s)
			if got != is || !is && len(b) != 0 {
				t.Errorf("%q: %x %v", s, b, got)
			}
		}
	}
}

func TestUnhexWrong(t *testing.T) {
	for _, s := range []string{"0", "0A", "A0", "zz", "0a0", "0a 0b", "0x0a", "0a\n", " 0a", "é", "\x00\x00"} {
		if b, is := Unhex(s); is || len(b) != 0 {
			t.Errorf("%q: %x %v", s, b, is)
		}
	}
}

// P1.2

func TestShow(t *testing.T) {
	for n, want := range map[int]string{0: "0", 7: "7", -7: "-7", 10: "10", -100: "-100", math.MaxInt64: "9223372036854775807", math.MinInt64: "-9223372036854775808"} {
		if s := Show(n); s != want {
			t.Error(n, s)
		}
	}
	for _, n := range edgeNumbers() {
		if m, err := strconv.Atoi(Show(n)); err != nil || m != n {
			t.Error(n, Show(n))
		}
	}
}

func TestParse(t *testing.T) {
	for s, want := range map[string]int{"0": 0, "1": 1, "9": 9, "10": 10, "42": 42, "100": 100, "1234567890": 1234567890, "100000000000000000": 100000000000000000, "999999999999999999": 999999999999999999} {
		if n, is := Parse(s); !is || n != want {
			t.Error(s, n, is)
		}
	}
}

func TestParseWrong(t *testing.T) {
	wrong := []string{"", "00", "01", "000000000000000001", "-", "-0", "-1", "+1", " 1", "1 ", "1x", "x1", "1.0", "1e3", "1_000", "0x1", "1000000000000000000", "9223372036854775807", "18446744073709551616", "1\n", "\x00", "٣", strings.Repeat("9", 19), strings.Repeat("1", 5000)}
	for _, s := range wrong {
		if n, is := Parse(s); is || n != 0 {
			t.Errorf("%q: %d %v", s, n, is)
		}
	}
	for c := range 256 {
		digit := c >= '0' && c <= '9'
		s := "1" + string([]byte{byte(c)}) + "2"
		if n, is := Parse(s); is != digit || !digit && n != 0 {
			t.Errorf("%q: %d %v", s, n, is)
		}
	}
}

// P1.3

func TestPut(t *testing.T) {
	for n, want := range map[int]string{0: "\x00", 1: "\x01", 127: "\x7f", 128: "\x80\x01", 300: "\xac\x02", 16383: "\xff\x7f", 16384: "\x80\x80\x01", math.MaxInt64: "\xff\xff\xff\xff\xff\xff\xff\xff\x7f"} {
		if b := Put(nil, n); string(b) != want {
			t.Errorf("%d: %x", n, b)
		}
		if b := Put([]byte("ab"), n); string(b) != "ab"+want {
			t.Errorf("%d behind others: %x", n, b)
		}
	}
	for _, n := range edgeNumbers() {
		want := []byte("x")
		if n >= 0 {
			want = binary.AppendUvarint(want, uint64(n))
		}
		if b := Put([]byte("x"), n); !bytes.Equal(b, want) {
			t.Errorf("%d: %x", n, b)
		}
	}
}

func TestPutNegative(t *testing.T) {
	for _, n := range []int{-1, -128, math.MinInt} {
		if len(Put(nil, n)) != 0 || string(Put([]byte("xy"), n)) != "xy" {
			t.Error(n)
		}
	}
}

// R3: the result shares no memory with the argument, not even behind its end.
func TestPutSharesNothing(t *testing.T) {
	for _, n := range []int{-1, 0, 300, math.MaxInt} {
		room := []byte("abcdefghijklmnop")
		b := Put(room[:2], n)
		if string(room) != "abcdefghijklmnop" {
			t.Error(n, "wrote into the argument:", string(room))
		}
		want := string(b)
		clear(room)
		if string(b) != want {
			t.Error(n, "the result follows the argument")
		}
		kept := []byte("ab")
		first := Put(kept, n)
		clear(first)
		if string(kept) != "ab" {
			t.Error(n, "the argument follows the result")
		}
	}
}

func TestGet(t *testing.T) {
	cases := []struct {
		b    string
		n, k int
	}{
		{"\xac\x02\x07", 300, 2},
		{"\x00", 0, 1},
		{"\x00\x00", 0, 1},
		{"\x01\x80", 1, 1},
		{"\x7f\xff", 127, 1},
		{"\x80\x01", 128, 2},
		{"\x80\x80\x01\xff", 16384, 3},
		{"\xff\xff\xff\xff\xff\xff\xff\xff\x7f", math.MaxInt64, 9},
		{"\xff\xff\xff\xff\xff\xff\xff\xff\x7f\x80", math.MaxInt64, 9},
		{"\x80\x80\x80\x80\x80\x80\x80\x80\x01", 1 << 56, 9},
	}
	for _, c := range cases {
		if n, k := Get([]byte(c.b)); n != c.n || k != c.k {
			t.Errorf("%x: %d %d", c.b, n, k)
		}
	}
}

func TestGetWrong(t *testing.T) {
	wrong := []string{"", "\x80", "\xff\xff", "\x80\x00", "\xac\x80\x00", "\x80\x00\x01", strings.Repeat("\x80", 8) + "\x00", strings.Repeat("\xff", 8), strings.Repeat("\xff", 9), strings.Repeat("\x80", 9) + "\x01", strings.Repeat("\xff", 9) + "\x00", strings.Repeat("\xff", 1000)}
	for _, s := range wrong {
		if n, k := Get([]byte(s)); n != 0 || k != 0 {
			t.Errorf("%x: %d %d", s, n, k)
		}
	}
	if n, k := Get(nil); n != 0 || k != 0 {
		t.Error(n, k)
	}
}

// P1.4

func TestWide(t *testing.T) {
	for n, want := range map[int]string{0: "\x00\x00\x00\x00\x00\x00\x00\x00", 258: "\x00\x00\x00\x00\x00\x00\x01\x02", -1: "\xff\xff\xff\xff\xff\xff\xff\xff", -2: "\xff\xff\xff\xff\xff\xff\xff\xfe", 0x0102030405060708: "\x01\x02\x03\x04\x05\x06\x07\x08", math.MinInt64: "\x80\x00\x00\x00\x00\x00\x00\x00", math.MaxInt64: "\x7f\xff\xff\xff\xff\xff\xff\xff"} {
		if b := Wide(n); string(b) != want {
			t.Errorf("%d: %x", n, b)
		}
		if m, e := Narrow([]byte(want)); m != n || e != api.OK {
			t.Errorf("%x: %d %d", want, m, e)
		}
	}
	for _, n := range edgeNumbers() {
		if b := Wide(n); !bytes.Equal(b, binary.BigEndian.AppendUint64(nil, uint64(n))) {
			t.Errorf("%d: %x", n, b)
		}
	}
}

func TestNarrowWrong(t *testing.T) {
	for k := range 20 {
		n, e := Narrow(bytes.Repeat([]byte{1}, k))
		if k == 8 {
			if n != 0x0101010101010101 || e != api.OK {
				t.Error(n, e)
			}
		} else if n != 0 || e != api.ErrArg {
			t.Error(k, n, e)
		}
	}
	if n, e := Narrow(nil); n != 0 || e != api.ErrArg {
		t.Error(n, e)
	}
}

// P1.5

func TestCrc(t *testing.T) {
	if Crc([]byte("123456789")) != 0xcbf43926 || Crc(nil) != 0 || Crc([]byte{}) != 0 {
		t.Error("the examples")
	}
	for c := range 256 {
		if b := []byte{byte(c)}; Crc(b) != crc32.ChecksumIEEE(b) {
			t.Errorf("%x: %x", b, Crc(b))
		}
	}
	for _, b := range someBytes() {
		if Crc(b) != crc32.ChecksumIEEE(b) {
			t.Errorf("%x: %x", b, Crc(b))
		}
	}
}

// P1.6

func TestUnhexInvertsHex(t *testing.T) {
	for _, b := range someBytes() {
		if c, is := Unhex(Hex(b)); !is || !bytes.Equal(b, c) {
			t.Errorf("%x: %x %v", b, c, is)
		}
	}
}

func TestGetInvertsPut(t *testing.T) {
	for _, n := range edgeNumbers() {
		if n < 0 {
			continue
		}
		b := Put(nil, n)
		for _, tail := range []string{"", "\x00", "\x80", "\xff\x01"} {
			if m, k := Get(append([]byte(string(b)), tail...)); m != n || k != len(b) {
				t.Error(n, tail, m, k)
			}
		}
	}
}

func TestNarrowInvertsWide(t *testing.T) {
	for _, n := range edgeNumbers() {
		if m, e := Narrow(Wide(n)); m != n || e != api.OK {
			t.Error(n, m, e)
		}
	}
}

func TestParseInvertsShow(t *testing.T) {
	for _, n := range edgeNumbers() {
		m, is := Parse(Show(n))
		if in := n >= 0 && n < 1000000000000000000; is != in || in && m != n || !in && m != 0 {
			t.Error(n, m, is)
		}
	}
}

func TestWideSorts(t *testing.T) {
	ns := edgeNumbers()
	for _, a := range ns {
		for _, b := range ns {
			if a >= 0 && a < b && bytes.Compare(Wide(a), Wide(b)) >= 0 {
				t.Error(a, b)
			}
		}
	}
}

// P1 and R3, R5: any bytes are taken, are left as they are, and are answered alike again.
func TestAnyBytes(t *testing.T) {
	for _, b := range someBytes() {
		before := string(b)
		n, k := Get(b)
		if again, size := Get(b); again != n || size != k || n < 0 || k < 0 || k > len(b) {
			t.Errorf("%x: %d %d", b, n, k)
		}
		if k > 0 && string(Put(nil, n)) != before[:k] {
			t.Errorf("%x: %d is not put so", b, n)
		}
		Unhex(before)
		Parse(before)
		Narrow(b)
		Hex(b)
		Crc(b)
		if string(b) != before {
			t.Errorf("%x was changed to %x", before, b)
		}
	}
}

// R3: what an earlier call answered is not touched by a later one.
func TestAnswersAreApart(t *testing.T) {
	a, b := Wide(1), Wide(1)
	clear(a)
	if b[7] != 1 {
		t.Error("two answers of Wide share memory")
	}
	c, _ := Unhex("ff")
	d, _ := Unhex("ff")
	clear(c)
	if d[0] != 255 {
		t.Error("two answers of Unhex share memory")
	}
}
