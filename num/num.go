// Package num is layer 1: numbers as bytes, of a fixed or a variable width, and a small hash of bytes.
// See shared/doc/01-num.md.
package num

import (
	"bytes"
	"math/bits"

	"troth/api"
)

const (
	maxWide   = 8                // bytes of a fixed-width encoding
	digitBits = 7                // bits of a varint's digit
	base      = 1 << digitBits   // of these digits, and what marks all but the last one
	maxDigits = 64/digitBits + 1 // of a varint; 64 bits are not a whole number of digits
)

// Wide is a number's bytes, the highest first.
func Wide(n uint64, wide int) ([]byte, api.Errno) {
	if !isWidth(wide) || n>>(8*wide) != 0 {
		return nil, api.ErrArg
	}
	b := make([]byte, wide)
	for i := range b {
		b[wide-1-i] = byte(n >> (8 * i))
	}
	return b, api.OK
}

// TakeWide is the number of first bytes.
func TakeWide(b []byte, wide int) (uint64, api.Errno) {
	if !isWidth(wide) {
		return 0, api.ErrArg
	}
	if len(b) < wide {
		return 0, api.ErrShort
	}
	var n uint64
	for _, c := range b[:wide] {
		n = n<<8 | uint64(c)
	}
	return n, api.OK
}

func isWidth(wide int) bool { return 1 <= wide && wide <= maxWide }

// Short is a number's digits to the base 128.
func Short(n uint64) []byte {
	var digits [maxDigits]byte
	at := len(digits) - 1
	digits[at] = byte(n % base)
collect:
	for {
		n >>= digitBits
		if n == 0 {
			break collect
		}
		at--
		digits[at] = byte(n%base) + base
	}
	return bytes.Clone(digits[at:])
}

// TakeShort is the number at the beginning, and how many bytes it has.
func TakeShort(b []byte) (uint64, int, api.Errno) {
	var n uint64
	for i, c := range b {
		if i == 0 && c == base {
			return 0, 0, api.ErrForm
		}
		// One digit more would push set bits out of the number.
		if n>>(64-digitBits) != 0 {
			return 0, 0, api.ErrLong
		}
		n = n<<digitBits + uint64(c%base)
		if c < base {
			return n, i + 1, api.OK
		}
	}
	return 0, 0, api.ErrShort
}

// Fold is a small number of bytes.
func Fold(b []byte, n int) int {
	if n < 1 {
		return 0
	}
	var value uint64
	for _, c := range b {
		// With a great n, 31 times the value does not fit into 64 bits: it has two words.
		high, low := bits.Mul64(value, 31)
		low, carry := bits.Add64(low, uint64(c), 0)
		value = bits.Rem64(high+carry, low, uint64(n))
	}
	return int(value)
}
