// Package num is layer 1: numbers as text and bytes, and a checksum.
package num

import (
	"slices"
	"strconv"

	"concierge/api"
)

const (
	hexDigits = "0123456789abcdef"
	maxDigits = 18 // any 18 digits fit an int, 19 may not
	maxGroups = 9  // nine groups of seven bits are the 63 bits of an int that is not negative
	wideSize  = 8
	crcPoly   = 0xedb88320
)

// Hex returns the bytes as lower-case hexadecimal text.
func Hex(b []byte) string {
	text := make([]byte, 0, 2*len(b))
	for _, c := range b {
		text = append(text, hexDigits[c>>4], hexDigits[c&15])
	}
	return string(text)
}

// Unhex returns the bytes of a hexadecimal text. It takes no upper-case letters, so that each byte string has one text only.
func Unhex(s string) ([]byte, bool) {
	if len(s)%2 != 0 {
		return nil, false
	}
	b := make([]byte, len(s)/2)
	for i := range b {
		high, isHigh := hexValue(s[2*i])
		low, isLow := hexValue(s[2*i+1])
		if !isHigh || !isLow {
			return nil, false
		}
		b[i] = high<<4 | low
	}
	return b, true
}

func hexValue(c byte) (byte, bool) {
	switch {
	case c >= '0' && c <= '9':
		return c - '0', true
	case c >= 'a' && c <= 'f':
		return c - 'a' + 10, true
	}
	return 0, false
}

// Show returns the decimal text of n.
func Show(n int) string {
	return strconv.Itoa(n)
}

// Parse returns the number of a decimal text. It takes no sign and no leading zero, so that each number has one text only.
func Parse(s string) (int, bool) {
	if len(s) == 0 || len(s) > maxDigits || len(s) > 1 && s[0] == '0' {
		return 0, false
	}
	n := 0
	for i := range len(s) {
		if s[i] < '0' || s[i] > '9' {
			return 0, false
		}
		n = n*10 + int(s[i]-'0')
	}
	return n, true
}

// Put returns a copy of b with n behind it, in groups of seven bits; a negative n adds nothing.
func Put(b []byte, n int) []byte {
	// Appending to b itself could write into what the caller keeps behind b's end.
	out := slices.Clone(b)
	if n < 0 {
		return out
	}
	for n >= 128 {
		out = append(out, byte(n&127)|128)
		n >>= 7
	}
	return append(out, byte(n))
}

// Get returns the number with which b begins and how many bytes it takes; no bytes means that there is no number.
func Get(b []byte) (int, int) {
	n := 0
	for i := range min(len(b), maxGroups) {
		n |= int(b[i]&127) << (7 * i)
		if b[i] >= 128 {
			continue
		}
		// A last group of 0 could be left out, so Put never writes it.
		if b[i] == 0 && i > 0 {
			return 0, 0
		}
		return n, i + 1
	}
	return 0, 0
}

// Wide returns the eight bytes of n, most significant first, so that the bytes sort as the numbers do.
func Wide(n int) []byte {
	bits := uint64(n)
	b := make([]byte, wideSize)
	for i := range wideSize {
		b[wideSize-1-i] = byte(bits >> (8 * i))
	}
	return b
}

// Narrow returns the number whose Wide is b.
func Narrow(b []byte) (int, api.Errno) {
	if len(b) != wideSize {
		return 0, api.ErrArg
	}
	bits := uint64(0)
	for _, c := range b {
		bits = bits<<8 | uint64(c)
	}
	return int(bits), api.OK
}

// Crc returns the CRC-32 checksum of b.
func Crc(b []byte) uint32 {
	sum := ^uint32(0)
	for _, c := range b {
		sum = crcByte(sum ^ uint32(c))
	}
	return ^sum
}

func crcByte(sum uint32) uint32 {
	for range 8 {
		out := sum & 1
		sum >>= 1
		if out == 1 {
			sum ^= crcPoly
		}
	}
	return sum
}
