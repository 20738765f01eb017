package sheet_test

import (
	"bytes"
	"fmt"
	"slices"
	"strings"

	"troth/api"
)

// What the chapter says of sheets, written down once more, without the package and the layers below it.

const (
	most   = 1<<40 - 1 // the greatest Inc, and the greatest Pos, of a payload
	none   = 255       // First, if no body begins in a sheet
	full   = 242       // bytes of a sheet
	longer = 4096      // bytes of a body
)

// sumOf is the checksum of bytes, bit by bit.
func sumOf(b []byte) []byte {
	reg := ^uint32(0)
	for _, c := range b {
		reg ^= uint32(c)
		for range 8 {
			if reg&1 == 1 {
				reg = reg>>1 ^ 0xEDB88320
			} else {
				reg >>= 1
			}
		}
	}
	reg = ^reg
	return []byte{byte(reg), byte(reg >> 8), byte(reg >> 16), byte(reg >> 24)}
}

// sealed is a body, sealed; or what it would be, if it is too long.
func sealed(body string) string {
	var b []byte
	for n := len(body); n > 0 || len(b) == 0; n /= 128 {
		c := byte(n % 128)
		if len(b) > 0 {
			c += 128
		}
		b = append([]byte{c}, b...)
	}
	b = append(b, body...)
	return string(append(b, sumOf(b)...))
}

// sealedAll is bodies, sealed and joined.
func sealedAll(bodies ...string) string {
	all := ""
	for _, body := range bodies {
		all += sealed(body)
	}
	return all
}

// opened is the body whose sealed one bytes begin with, and the length of that.
func opened(b []byte) (string, int, api.Errno) {
	n, at := uint64(0), 0
	for more := true; more; at++ {
		switch {
		case at == len(b):
			return "", 0, api.ErrShort
		case at == 0 && b[0] == 128:
			return "", 0, api.ErrForm
		case n >= 1<<57:
			return "", 0, api.ErrLong
		}
		n = n*128 + uint64(b[at]%128)
		more = b[at] >= 128
	}
	if n > longer {
		return "", 0, api.ErrLong
	}
	end := at + int(n)
	if end+4 > len(b) {
		return "", 0, api.ErrShort
	}
	if !bytes.Equal(b[end:end+4], sumOf(b[:end])) {
		return "", 0, api.ErrSum
	}
	return string(b[at:end]), end + 4, api.OK
}

// laid is the sheets of bodies, which are put into them byte by byte.
func laid(inc, pos int, bodies ...string) []api.Sheet {
	var l []api.Sheet
	var data []byte
	finish := func() {
		if len(l) > 0 {
			l[len(l)-1].Data = string(data)
		}
		data = nil
	}
	for _, body := range bodies {
		for i, c := range []byte(sealed(body)) {
			if len(data) == full || len(l) == 0 {
				finish()
				l = append(l, api.Sheet{Inc: inc, Pos: pos + len(l), First: none})
			}
			if s := &l[len(l)-1]; i == 0 && s.First == none {
				s.First = len(data)
			}
			data = append(data, c)
		}
	}
	finish()
	return l
}

// ended is those of the bodies that end in the first so many of their sheets, with the sheets in which they begin, the first of which has the index from.
func ended(sheets, from int, bodies ...string) []api.Found {
	var l []api.Found
	at := 0
	for _, body := range bodies {
		begin := at
		at += len(sealed(body))
		if at <= sheets*full {
			l = append(l, api.Found{Body: body, Sheet: from + begin/full})
		}
	}
	return l
}

// allOf is all bodies, found in their sheets, the first of which has the index from.
func allOf(from int, bodies ...string) []api.Found { return ended(1<<30, from, bodies...) }

// isIn tells whether First is from 0 to the length of Data.
func isIn(s api.Sheet) bool { return s.First >= 0 && s.First <= len(s.Data) }

// foundIn is the bodies that are found in sheets, step by step as the chapter has them.
func foundIn(l []api.Sheet) []api.Found {
	var found []api.Found
	var part []byte
	where, incomplete := 0, false
	for i, s := range l {
		head := s.Data
		if isIn(s) {
			head = s.Data[:s.First]
		}
		if incomplete {
			part = slices.Concat(part, []byte(head))
			body, used, e := opened(part)
			if e != api.ErrShort {
				if e != api.OK || used != len(part) {
					return found
				}
				found = append(found, api.Found{Body: body, Sheet: where})
				incomplete = false
			}
		}
		if !isIn(s) {
			continue
		}
		incomplete = false
		rest := []byte(s.Data)[s.First:]
		for len(rest) > 0 && !incomplete {
			body, used, e := opened(rest)
			switch e {
			case api.OK:
				found = append(found, api.Found{Body: body, Sheet: i})
				rest = rest[used:]
			case api.ErrShort:
				part, where, incomplete = rest, i, true
			default:
				return found
			}
		}
	}
	return found
}

// isValid tells whether a sheet is valid.
func isValid(s api.Sheet) bool {
	in := func(n int) bool { return n >= 0 && n <= 1<<40 }
	return in(s.Inc) && in(s.Pos) && len(s.Data) <= full && (isIn(s) || s.First == none)
}

// payloadOf is what the payload of a sheet would be, whether or not it is valid.
func payloadOf(s api.Sheet) []byte {
	var b []byte
	for _, n := range []int{s.Inc, s.Pos} {
		for shift := 32; shift >= 0; shift -= 8 {
			b = append(b, byte(n>>shift))
		}
	}
	b = append(b, byte(s.First), byte(len(s.Data)))
	return append(b, s.Data...)
}

// sheetOf is the sheet that a payload has, or the error of decoding it.
func sheetOf(payload []byte) (api.Sheet, api.Errno) {
	if len(payload) < 12 || len(payload) < 12+int(payload[11]) {
		return api.Sheet{}, api.ErrShort
	}
	var numbers [2]int
	for i, c := range payload[:10] {
		numbers[i/5] = numbers[i/5]*256 + int(c)
	}
	s := api.Sheet{Inc: numbers[0], Pos: numbers[1], First: int(payload[10]), Data: string(payload[12 : 12+int(payload[11])])}
	if !isValid(s) {
		return api.Sheet{}, api.ErrForm
	}
	return s, api.OK
}

// textOf is a text of n bytes, each of which has to do with its place and with a seed.
func textOf(n, seed int) string {
	b := make([]byte, n)
	for i := range b {
		b[i] = byte(i*7 + i/242*5 + seed*31)
	}
	return string(b)
}

// textsOf is texts of so many bytes each, no two of which are alike.
func textsOf(seed int, sizes ...int) []string {
	var l []string
	for i, n := range sizes {
		l = append(l, textOf(n, seed+i))
	}
	return l
}

// times is a number, so many times.
func times(n, size int) []int { return slices.Repeat([]int{size}, n) }

// bytesOf is texts as byte strings.
func bytesOf(texts ...string) [][]byte {
	var l [][]byte
	for _, s := range texts {
		l = append(l, []byte(s))
	}
	return l
}

// spoilt is a text with the byte at one place changed.
func spoilt(s string, at int) string {
	b := []byte(s)
	b[at] ^= 0x10
	return string(b)
}

// told is sheets as a text that can be printed.
func told(l ...api.Sheet) string {
	var lines []string
	for _, s := range l {
		lines = append(lines, fmt.Sprintf("Inc %d Pos %d First %d Data %q", s.Inc, s.Pos, s.First, s.Data))
	}
	return strings.Join(lines, "; ")
}

// draw draws numbers without a pattern, always the same ones.
type draw struct{ state uint64 }

func (d *draw) below(n int) int {
	d.state = d.state*6364136223846793005 + 1442695040888963407
	return int(d.state >> 33 % uint64(n))
}

func pick[T any](d *draw, l []T) T { return l[d.below(len(l))] }
