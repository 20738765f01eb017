package sheet_test

import (
	"bytes"
	"math"
	"slices"
	"strings"
	"testing"

	"troth/api"
	"troth/sheet"
)

// wantPayload fails if a sheet has another payload, or if that is decoded to another sheet, whatever follows it.
func wantPayload(t *testing.T, what string, s api.Sheet, want []byte) {
	t.Helper()
	if b, e := sheet.Encode(s); e != api.OK || !bytes.Equal(b, want) {
		t.Errorf("%s: Encode of %s is %v, %d; want %v, OK", what, told(s), b, e, want)
	}
	for _, behind := range []string{"", "\x00", "behind", strings.Repeat("\xff", 254)} {
		wantSheet(t, what, slices.Concat(want, []byte(behind)), s)
	}
}

// wantNoPayload fails if a sheet is encoded.
func wantNoPayload(t *testing.T, what string, s api.Sheet) {
	t.Helper()
	if b, e := sheet.Encode(s); e != api.ErrArg || len(b) != 0 {
		t.Errorf("%s: Encode of %s is %v, %d; want nothing, ErrArg", what, told(s), b, e)
	}
}

// wantSheet fails if a payload is decoded to another sheet.
func wantSheet(t *testing.T, what string, payload []byte, want api.Sheet) {
	t.Helper()
	if s, e := sheet.Decode(payload); e != api.OK || s != want {
		t.Errorf("%s: Decode of %v is %s, %d; want %s, OK", what, payload, told(s), e, told(want))
	}
}

// wantNoSheet fails if decoding a payload does not fail with an error, and the zero sheet beside it.
func wantNoSheet(t *testing.T, what string, payload []byte, want api.Errno) {
	t.Helper()
	if s, e := sheet.Decode(payload); e != want || s != (api.Sheet{}) {
		t.Errorf("%s: Decode of %v is %s, %d; want the zero sheet, %d", what, payload, told(s), e, want)
	}
}

// wantEncoded fails if Encode of a sheet is not as the chapter has it.
func wantEncoded(t *testing.T, what string, s api.Sheet) {
	t.Helper()
	if isValid(s) && s.Inc <= most && s.Pos <= most {
		wantPayload(t, what, s, payloadOf(s))
	} else {
		wantNoPayload(t, what, s)
	}
}

// wantDecoded fails if Decode of a payload is not as the chapter has it.
func wantDecoded(t *testing.T, what string, payload []byte) {
	t.Helper()
	if s, e := sheetOf(payload); e == api.OK {
		wantSheet(t, what, payload, s)
	} else {
		wantNoSheet(t, what, payload, e)
	}
}

// P8.1 and P8.4: payloads written out.
func TestPayloadsWrittenOut(t *testing.T) {
	for _, c := range []struct {
		s api.Sheet
		b string
	}{
		{api.Sheet{}, "\x00\x00\x00\x00\x00\x00\x00\x00\x00\x00\x00\x00"},
		{api.Sheet{First: 255}, "\x00\x00\x00\x00\x00\x00\x00\x00\x00\x00\xff\x00"},
		{api.Sheet{Inc: 1, Pos: 2, First: 3, Data: "abcd"}, "\x00\x00\x00\x00\x01\x00\x00\x00\x00\x02\x03\x04abcd"},
		{api.Sheet{Inc: 258, Pos: 1<<40 - 1, First: 0, Data: "\x00"}, "\x00\x00\x00\x01\x02\xff\xff\xff\xff\xff\x00\x01\x00"},
		{api.Sheet{Inc: 1<<40 - 1, Pos: 0x0102030405, First: 2, Data: "ab"}, "\xff\xff\xff\xff\xff\x01\x02\x03\x04\x05\x02\x02ab"},
		{api.Sheet{Inc: 1 << 39, Pos: 1 << 32, First: 255, Data: "\xff\x80"}, "\x80\x00\x00\x00\x00\x01\x00\x00\x00\x00\xff\x02\xff\x80"},
		{api.Sheet{Inc: 0xA1B2C3D4E5, Pos: 256, First: 242, Data: strings.Repeat("x", 242)}, "\xa1\xb2\xc3\xd4\xe5\x00\x00\x00\x01\x00\xf2\xf2" + strings.Repeat("x", 242)},
	} {
		wantPayload(t, "written out", c.s, []byte(c.b))
	}
}

// P8.1: Inc and Pos at their edges, and far from them.
func TestEncodeSeqs(t *testing.T) {
	good := []int{0, 1, 2, 255, 256, 65535, 65536, 1<<24 - 1, 1 << 24, 1<<32 - 1, 1 << 32, 1<<39 + 5, most - 1, most}
	bad := []int{-1, -2, -255, -256, 1 << 40, 1<<40 + 1, 1<<41 - 1, 1 << 41, 1<<48 + 7, -(1 << 40), math.MaxInt, math.MinInt, math.MinInt + 1}
	for _, n := range good {
		for _, m := range good {
			s := api.Sheet{Inc: n, Pos: m, First: 1, Data: "ab"}
			wantPayload(t, "good numbers", s, payloadOf(s))
		}
		for _, m := range bad {
			wantNoPayload(t, "a bad Pos", api.Sheet{Inc: n, Pos: m, First: 1, Data: "ab"})
			wantNoPayload(t, "a bad Inc", api.Sheet{Inc: m, Pos: n, First: 1, Data: "ab"})
		}
	}
	for _, n := range bad {
		wantNoPayload(t, "two bad numbers", api.Sheet{Inc: n, Pos: n, First: 255, Data: "ab"})
	}
}

// P8.1 and P8.4: every First and every length of Data, beyond what they may be too.
func TestEncodeFirstAndData(t *testing.T) {
	for n := range 260 {
		s := api.Sheet{Inc: 5, Pos: 6, Data: textOf(n, n)}
		for first := -3; first <= 260; first++ {
			s.First = first
			wantEncoded(t, "a First and a length of Data", s)
		}
		for _, first := range []int{511, 512, 256 + n, 1 << 20, 1<<32 + 255, 1 << 32, -256, -255, -1 << 32, math.MaxInt, math.MinInt} {
			s.First = first
			wantNoPayload(t, "a First that may not be", s)
		}
	}
}

// P8.1: the edges of First and of Data, told without the model.
func TestEncodeEdges(t *testing.T) {
	for _, n := range []int{0, 1, 241, 242} {
		data := strings.Repeat("d", n)
		for _, first := range []int{0, n, 255} {
			s := api.Sheet{Inc: 1, Pos: 1, First: first, Data: data}
			wantPayload(t, "an edge", s, append([]byte{0, 0, 0, 0, 1, 0, 0, 0, 0, 1, byte(first), byte(n)}, data...))
		}
		for _, first := range []int{-1, n + 1, 254, 256} {
			wantNoPayload(t, "beyond an edge", api.Sheet{Inc: 1, Pos: 1, First: first, Data: data})
		}
	}
	for _, n := range []int{243, 244, 254, 255, 256, 257, 498, 512, 5000, 1 << 16} {
		for _, first := range []int{0, 1, 242, 243, 254, 255, 256, n} {
			wantNoPayload(t, "too much Data", api.Sheet{Inc: 1, Pos: 1, First: first, Data: strings.Repeat("d", n)})
		}
	}
}

// P8.1: payloads that end too soon, whatever is in them.
func TestDecodeShort(t *testing.T) {
	wantNoSheet(t, "nil", nil, api.ErrShort)
	for n := range 12 {
		wantNoSheet(t, "zero bytes", make([]byte, n), api.ErrShort)
		wantNoSheet(t, "bytes 255", bytes.Repeat([]byte{255}, n), api.ErrShort)
		wantNoSheet(t, "a First that may not be, and too few bytes", bytes.Repeat([]byte{9}, n), api.ErrShort)
	}
	for n := range 256 {
		for _, first := range []byte{0, 1, byte(n), byte(n) + 1, 243, 254, 255} {
			whole := slices.Concat(make([]byte, 10), []byte{first, byte(n)}, []byte(textOf(n, 3)))
			wantDecoded(t, "as many bytes as Data needs", whole)
			for _, less := range []int{1, 2, n / 2, n} {
				if less > 0 && less <= n {
					wantNoSheet(t, "fewer bytes than Data needs", whole[:len(whole)-less], api.ErrShort)
				}
			}
		}
	}
}

// P8.1: a payload of 12 bytes has a sheet without Data, or none.
func TestDecodeTwelveBytes(t *testing.T) {
	wantSheet(t, "twelve zero bytes", make([]byte, 12), api.Sheet{})
	wantSheet(t, "no body begins", append(make([]byte, 10), 255, 0), api.Sheet{First: 255})
	wantNoSheet(t, "Data is missing", append(make([]byte, 10), 0, 1), api.ErrShort)
	wantNoSheet(t, "Data is missing, and it would be too long", append(make([]byte, 10), 0, 255), api.ErrShort)
	for first := 1; first < 255; first++ {
		wantNoSheet(t, "First behind Data", append(make([]byte, 10), byte(first), 0), api.ErrForm)
		wantNoSheet(t, "First behind Data, which is missing", append(make([]byte, 10), byte(first), 1), api.ErrShort)
	}
}

// P8.1: every First and every length that a payload may hold; what is behind Data doesn't count.
func TestDecodeFirstAndLength(t *testing.T) {
	for n := range 256 {
		for first := range 256 {
			b := slices.Concat([]byte{1, 2, 3, 4, 5, 6, 7, 8, 9, 10, byte(first), byte(n)}, []byte(textOf(n, first)))
			if n <= 242 && (first <= n || first == 255) {
				wantSheet(t, "a valid sheet", b, api.Sheet{Inc: 0x0102030405, Pos: 0x060708090A, First: first, Data: textOf(n, first)})
				wantSheet(t, "a valid sheet, and more", append(b, 1, 2, 3), api.Sheet{Inc: 0x0102030405, Pos: 0x060708090A, First: first, Data: textOf(n, first)})
			} else {
				wantNoSheet(t, "a sheet that is not valid", b, api.ErrForm)
				wantNoSheet(t, "a sheet that is not valid, and more", append(b, 1, 2, 3), api.ErrForm)
			}
		}
	}
}

// P8.4: payloads of 254 bytes, as a sector has them: the greatest sheet fills them.
func TestDecodeSectorPayload(t *testing.T) {
	for n := range 243 {
		s := api.Sheet{Inc: most - n, Pos: n, First: n, Data: textOf(n, 1)}
		b, e := sheet.Encode(s)
		if e != api.OK || len(b) != 12+n || len(b) > api.Payload {
			t.Fatalf("Encode of %d bytes of Data is %d bytes, %d; want %d, OK", n, len(b), e, 12+n)
		}
		wantSheet(t, "a sector's payload", append(b, make([]byte, api.Payload-len(b))...), s)
	}
}

// P8.1: bytes without a pattern are decoded as the chapter has it, and what has a sheet is its payload.
func TestDecodeAnyBytes(t *testing.T) {
	var d draw
	sheets := 0
	for range 20000 {
		b := make([]byte, d.below(280))
		for i := range b {
			b[i] = byte(d.below(256))
		}
		if len(b) > 11 && d.below(2) == 0 {
			b[11] = byte(d.below(len(b) - 11))
		}
		if len(b) > 11 && d.below(3) == 0 {
			b[10] = pick(&d, []byte{0, b[11], b[11] + 1, 255, 254, 243})
		}
		wantDecoded(t, "any bytes", b)
		if s, e := sheet.Decode(b); e == api.OK {
			sheets++
			if again, e := sheet.Encode(s); e != api.OK || !bytes.Equal(again, b[:len(again)]) {
				t.Fatalf("Encode of what %v is decoded to is %v, %d", b, again, e)
			}
		}
	}
	if sheets < 1000 {
		t.Errorf("only %d of the payloads had sheets", sheets)
	}
}
