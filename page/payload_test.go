package page_test

import (
	"bytes"
	"slices"
	"strings"
	"testing"

	"troth/api"
	pages "troth/page"
)

// wantPayload fails if a page has another payload, or if that is decoded to another page, whatever follows it.
func wantPayload(t *testing.T, what string, p api.Page, want []byte) {
	t.Helper()
	if b, e := pages.Encode(p); e != api.OK || !bytes.Equal(b, want) {
		t.Errorf("%s: Encode of %s is %v, %d; want %v, OK", what, told(p), b, e, want)
	}
	for _, behind := range []string{"", "\x00", "\x01a\x00", "behind", strings.Repeat("\xff", 254), strings.Repeat("\x00", 5000)} {
		wantPage(t, what, slices.Concat(want, []byte(behind)), p)
	}
}

// wantNoPayload fails if a page is encoded.
func wantNoPayload(t *testing.T, what string, p api.Page) {
	t.Helper()
	if b, e := pages.Encode(p); e != api.ErrArg || len(b) != 0 {
		t.Errorf("%s: Encode of %s is %v, %d; want nothing, ErrArg", what, told(p), b, e)
	}
}

// wantPage fails if a payload is decoded to another page.
func wantPage(t *testing.T, what string, payload []byte, want api.Page) {
	t.Helper()
	if p, e := pages.Decode(payload); e != api.OK || !same(p, want) {
		t.Errorf("%s: Decode of %v is %s, %d; want %s, OK", what, payload, told(p), e, told(want))
	}
}

// wantNoPage fails if decoding a payload does not fail with an error, and the zero page beside it.
func wantNoPage(t *testing.T, what string, payload []byte, want api.Errno) {
	t.Helper()
	if p, e := pages.Decode(payload); e != want || p.Lsn != 0 || len(p.Cells) != 0 {
		t.Errorf("%s: Decode of %v is %s, %d; want the zero page, %d", what, payload, told(p), e, want)
	}
}

// wantDecoded fails if decoding a payload is anything but what the chapter has, or if a page of it has a payload that the bytes do not begin with.
func wantDecoded(t *testing.T, what string, payload []byte) {
	t.Helper()
	want, e := pageOf(payload)
	if e != api.OK {
		wantNoPage(t, what, payload, e)
		return
	}
	wantPage(t, what, payload, want)
	p, _ := pages.Decode(payload)
	if b, e := pages.Encode(p); e != api.OK || !bytes.HasPrefix(payload, b) {
		t.Errorf("%s: Encode of what %v is decoded to is %v, %d", what, payload, b, e)
	}
}

// P10.1 and P10.3: payloads written out.
func TestPayloadsWrittenOut(t *testing.T) {
	cell := func(key string, v api.Value) api.Cell { return api.Cell{Key: key, Val: v} }
	for _, c := range []struct {
		p api.Page
		b string
	}{
		{api.Page{}, "\x00\x00"},
		{api.Page{Lsn: 1}, "\x01\x00"},
		{api.Page{Lsn: 300}, "\x82\x2c\x00"},
		{api.Page{Lsn: most}, "\xa0\x80\x80\x80\x80\x00\x00"},
		{api.Page{Lsn: 7, Cells: []api.Cell{cell("a", none)}}, "\x07\x01\x01a\x00"},
		{api.Page{Lsn: 7, Cells: []api.Cell{cell("a", has(""))}}, "\x07\x01\x01a\x01\x00"},
		{api.Page{Lsn: 7, Cells: []api.Cell{cell("a", has("xyz"))}}, "\x07\x01\x01a\x01\x03xyz"},
		{api.Page{Lsn: 7, Cells: []api.Cell{cell("\x00", has("\x00\xff"))}}, "\x07\x01\x01\x00\x01\x02\x00\xff"},
		{api.Page{Lsn: 7, Cells: []api.Cell{cell("a", none), cell("bc", has("x")), cell("d", none), cell("e", has(""))}}, "\x07\x04\x01a\x00\x02bc\x01\x01x\x01d\x00\x01e\x01\x00"},
		{api.Page{Lsn: 7, Cells: []api.Cell{cell(strings.Repeat("k", 16), has(strings.Repeat("v", 32)))}}, "\x07\x01\x10" + strings.Repeat("k", 16) + "\x01\x20" + strings.Repeat("v", 32)},
	} {
		wantPayload(t, "written out", c.p, []byte(c.b))
	}
}

// P10.1 and P10.3: valid pages of all kinds are encoded, and decoded to themselves.
func TestRoundTrip(t *testing.T) {
	for _, p := range goodPages() {
		wantPayload(t, "a valid page", p, payloadOf(p))
	}
}

// P10.1: pages that are not valid have no payload, and what would be theirs is no page.
func TestNotValid(t *testing.T) {
	for _, p := range badPages() {
		wantNoPayload(t, "a page that is not valid", p)
		// The data of an absent value are not written: such a page alone has the payload of another one, which is valid.
		absent := slices.ContainsFunc(p.Cells, func(c api.Cell) bool { return !c.Val.Has && c.Val.Data != "" })
		if _, e := pages.Decode(payloadOf(p)); (e == api.OK) != absent {
			t.Errorf("Decode of what would be the payload of %s is %d", told(p), e)
		}
		wantDecoded(t, "a page that is not valid", payloadOf(p))
	}
}

// P10.1: every Lsn, in pages with and without cells.
func TestLsns(t *testing.T) {
	for _, n := range lsns {
		for _, p := range []api.Page{page(n), page(n, "a"), page(n, "a", "b", "c", "d")} {
			if mayLsn(n) {
				wantPayload(t, "a good Lsn", p, payloadOf(p))
				continue
			}
			wantNoPayload(t, "a bad Lsn", p)
			// As a number without a sign, a negative one is greater than all that may be.
			wantNoPage(t, "a bad Lsn", payloadOf(p), api.ErrLong)
		}
	}
}

// P10.1: pages of up to 6 cells, and of very many.
func TestNumbersOfCells(t *testing.T) {
	all := []string{"a", "b", "c", "d", "e", "f"}
	for n := range 7 {
		p := page(3, all[:n]...)
		if n <= 4 {
			wantPayload(t, "up to 4 cells", p, payloadOf(p))
			continue
		}
		wantNoPayload(t, "more than 4 cells", p)
		wantNoPage(t, "more than 4 cells", payloadOf(p), api.ErrLong)
		wantNoPage(t, "a number of more than 4 cells, alone", payloadOf(p)[:2], api.ErrLong)
	}
	var many api.Page
	for i := range 5000 {
		many.Cells = append(many.Cells, api.Cell{Key: string([]byte{byte(i >> 8), byte(i), 1})})
	}
	wantNoPayload(t, "very many cells", many)
	wantNoPage(t, "very many cells", payloadOf(many), api.ErrLong)
}

// P10.1: keys of every length and of every byte, at each place.
func TestKeys(t *testing.T) {
	for n := range 40 {
		p := page(3, strings.Repeat("k", n))
		if n < 1 || n > 16 {
			wantNoPayload(t, "a bad length of a key", p)
		} else {
			wantPayload(t, "a good length of a key", p, payloadOf(p))
		}
		wantDecoded(t, "a length of a key", payloadOf(p))
	}
	wantNoPage(t, "a key of no byte", payloadOf(page(3, "")), api.ErrForm)
	wantNoPage(t, "a key of 17 bytes", payloadOf(page(3, strings.Repeat("k", 17))), api.ErrLong)
	for c := range 256 {
		for i := range 3 {
			key := []byte("kkk")
			key[i] = byte(c)
			p := page(3, string(key))
			wantPayload(t, "any byte in a key", p, payloadOf(p))
		}
		p := page(3, string([]byte{byte(c)}))
		wantPayload(t, "any byte as a key", p, payloadOf(p))
	}
}

// P10.1: values of every length, of every byte, and absent ones.
func TestValues(t *testing.T) {
	put := func(v api.Value) api.Page { return api.Page{Lsn: 3, Cells: []api.Cell{{Key: "k", Val: v}}} }
	for n := range 40 {
		p := put(has(strings.Repeat("v", n)))
		if n > 32 {
			wantNoPayload(t, "a value that is too long", p)
			wantNoPage(t, "a value that is too long", payloadOf(p), api.ErrLong)
		} else {
			wantPayload(t, "a length of a value", p, payloadOf(p))
		}
		absent := put(api.Value{Data: strings.Repeat("v", n)})
		if n > 0 {
			wantNoPayload(t, "an absent value with data", absent)
		} else {
			wantPayload(t, "an absent value", absent, payloadOf(absent))
		}
	}
	for c := range 256 {
		p := put(has(string([]byte{byte(c), 'x', byte(c)})))
		wantPayload(t, "any byte in a value", p, payloadOf(p))
	}
}

// P10.1: any two cells: valid are those alone whose keys rise.
func TestOrder(t *testing.T) {
	l := keys()
	for _, a := range l {
		for _, b := range l {
			p := page(3, a, b)
			if mayKey(a) && mayKey(b) && a < b {
				wantPayload(t, "keys that rise", p, payloadOf(p))
			} else {
				wantNoPayload(t, "keys that do not rise, or are none", p)
			}
			wantDecoded(t, "two keys", payloadOf(p))
		}
	}
	wantNoPage(t, "keys that fall", payloadOf(page(3, "b", "a")), api.ErrForm)
	wantNoPage(t, "a key that is there twice", payloadOf(page(3, "a", "a")), api.ErrForm)
	wantNoPage(t, "the last keys fall", payloadOf(page(3, "a", "b", "d", "c")), api.ErrForm)
	wantNoPage(t, "the last key is there twice", payloadOf(page(3, "a", "b", "c", "c")), api.ErrForm)
}

// P10.1: noughts, and nothing at all.
func TestNoughts(t *testing.T) {
	wantNoPage(t, "nil", nil, api.ErrShort)
	wantNoPage(t, "no byte", []byte{}, api.ErrShort)
	wantNoPage(t, "one nought", []byte{0}, api.ErrShort)
	for n := 2; n < 300; n++ {
		wantPage(t, "noughts", make([]byte, n), api.Page{})
	}
	wantNoPage(t, "noughts behind a number of one cell", append([]byte{0, 1}, make([]byte, 100)...), api.ErrForm)
}

// P10.1: the errors of decoding, in their order; that of a page that is not valid comes last.
func TestDecodeErrors(t *testing.T) {
	tooGreat, far := string(digits(most+1)), string(digits(1<<64-1))
	for _, c := range []struct {
		what, b string
		want    api.Errno
	}{
		{"an Lsn that ends too soon", "\x81", api.ErrShort},
		{"an Lsn with a leading zero", "\x80\x01\x00", api.ErrForm},
		{"an Lsn with a leading zero that ends too soon", "\x80", api.ErrForm},
		{"an Lsn that is too great", tooGreat + "\x00", api.ErrLong},
		{"an Lsn that is too great, and nothing behind it", tooGreat, api.ErrLong},
		{"the greatest Lsn", far + "\x00", api.ErrLong},
		{"an Lsn of more than 64 bits", strings.Repeat("\xff", 10) + "\x00\x00", api.ErrLong},
		{"an Lsn of more than 64 bits, in zeros", "\x82" + strings.Repeat("\x80", 9) + "\x00\x00", api.ErrLong},
		{"an Lsn that is too great, ahead of 5 cells", tooGreat + "\x05", api.ErrLong},
		{"an Lsn with a leading zero, ahead of 5 cells", "\x80\x01\x05", api.ErrForm},
		{"no number of cells", "\x07", api.ErrShort},
		{"a number of cells that ends too soon", "\x07\x81", api.ErrShort},
		{"a number of cells with a leading zero", "\x07\x80\x00", api.ErrForm},
		{"a number of cells with a leading zero that ends too soon", "\x07\x80", api.ErrForm},
		{"5 cells", "\x07\x05" + strings.Repeat("\x01a\x00", 5), api.ErrLong},
		{"5 cells, and nothing behind them", "\x07\x05", api.ErrLong},
		{"128 cells", "\x07\x81\x00", api.ErrLong},
		{"as many cells as a number may be", "\x07" + far, api.ErrLong},
		{"no key", "\x07\x01", api.ErrShort},
		{"a key's length that ends too soon", "\x07\x01\x81", api.ErrShort},
		{"a key's length with a leading zero", "\x07\x01\x80\x01a\x00", api.ErrForm},
		{"a key that ends too soon", "\x07\x01\x02a", api.ErrShort},
		{"a key of no byte, and nothing behind it", "\x07\x01\x00", api.ErrShort},
		{"a key of no byte", "\x07\x01\x00\x00", api.ErrForm},
		{"a key of no byte, and a flag of 2", "\x07\x01\x00\x02", api.ErrForm},
		{"a key of no byte, and a value that is too long", "\x07\x01\x00\x01\x21" + strings.Repeat("v", 33), api.ErrLong},
		{"a key of no byte, and a value that ends too soon", "\x07\x01\x00\x01\x02v", api.ErrShort},
		{"a key of 17 bytes", "\x07\x01\x11" + strings.Repeat("k", 17) + "\x00", api.ErrLong},
		{"a key of 17 bytes, which are not there", "\x07\x01\x11", api.ErrLong},
		{"a key of 16 bytes, which are not there", "\x07\x01\x10", api.ErrShort},
		{"a key of 17 bytes, ahead of a flag of 2", "\x07\x01\x11" + strings.Repeat("k", 17) + "\x02", api.ErrLong},
		{"a key as long as a number may be", "\x07\x01" + far + "k", api.ErrLong},
		{"no flag", "\x07\x01\x01a", api.ErrShort},
		{"a flag of 2", "\x07\x01\x01a\x02", api.ErrForm},
		{"a flag of 255", "\x07\x01\x01a\xff\x01v", api.ErrForm},
		{"a flag of 128", "\x07\x01\x01a\x80\x01v", api.ErrForm},
		{"no value", "\x07\x01\x01a\x01", api.ErrShort},
		{"a value's length with a leading zero", "\x07\x01\x01a\x01\x80\x01v", api.ErrForm},
		{"a value that ends too soon", "\x07\x01\x01a\x01\x02v", api.ErrShort},
		{"a value of 33 bytes", "\x07\x01\x01a\x01\x21" + strings.Repeat("v", 33), api.ErrLong},
		{"a value of 33 bytes, which are not there", "\x07\x01\x01a\x01\x21", api.ErrLong},
		{"a value of 32 bytes, which are not there", "\x07\x01\x01a\x01\x20", api.ErrShort},
		{"no second cell", "\x07\x02\x01b\x00", api.ErrShort},
		{"the same key in a second cell that ends too soon", "\x07\x02\x01b\x00\x01b", api.ErrShort},
		{"a lower key in a second cell with a flag of 2", "\x07\x02\x01b\x00\x01a\x02", api.ErrForm},
		{"a lower key in a second cell with a value that is too long", "\x07\x02\x01b\x00\x01a\x01\x21" + strings.Repeat("v", 33), api.ErrLong},
		{"a lower key in a second cell", "\x07\x02\x01b\x00\x01a\x00", api.ErrForm},
		{"the same key in a second cell", "\x07\x02\x01b\x00\x01b\x01\x01v", api.ErrForm},
		{"no fourth cell", "\x07\x04\x01a\x00\x01b\x00\x01c\x00", api.ErrShort},
		{"a lower key in the second of four cells, the last of which ends too soon", "\x07\x04\x01b\x00\x01a\x00\x01c\x00\x01d", api.ErrShort},
	} {
		wantNoPage(t, c.what, []byte(c.b), c.want)
		if _, e := pageOf([]byte(c.b)); e != c.want {
			t.Errorf("%s: the model has %d", c.what, e)
		}
	}
}

// P10.1: every proper prefix of a payload ends too soon.
func TestPrefixes(t *testing.T) {
	for _, p := range goodPages() {
		b := payloadOf(p)
		for n := range b {
			wantNoPage(t, "a proper prefix", b[:n], api.ErrShort)
		}
	}
}

// P10.1 and P10.3: payloads in which a byte is any other one, or is missing, or is there twice.
func TestReplacedBytes(t *testing.T) {
	for _, p := range goodPages() {
		b := payloadOf(p)
		for i := range b {
			for c := range 256 {
				other := bytes.Clone(b)
				other[i] = byte(c)
				wantDecoded(t, "a byte replaced", other)
			}
			wantDecoded(t, "a byte missing", slices.Delete(bytes.Clone(b), i, i+1))
			wantDecoded(t, "a byte twice", slices.Insert(bytes.Clone(b), i, b[i]))
			if t.Failed() {
				return
			}
		}
	}
}

// P10.1: all short strings of some bytes.
func TestShortPayloads(t *testing.T) {
	some := []byte{0, 1, 2, 4, 5, 16, 17, 32, 33, 'a', 127, 128, 129, 255}
	var walk func(b []byte)
	pagesFound := 0
	walk = func(b []byte) {
		wantDecoded(t, "a short payload", b)
		if _, e := pages.Decode(b); e == api.OK {
			pagesFound++
		}
		if len(b) == 5 || t.Failed() {
			return
		}
		for _, c := range some {
			walk(append(bytes.Clone(b), c))
		}
	}
	walk(nil)
	if pagesFound < 100 {
		t.Errorf("only %d pages", pagesFound)
	}
}
