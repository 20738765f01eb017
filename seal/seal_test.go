package seal_test

import (
	"bytes"
	"math"
	"strings"
	"testing"

	"troth/api"
	"troth/crc"
	"troth/num"
	"troth/seal"
)

// mosts are limits of all kinds.
var mosts = []int{math.MinInt, math.MinInt + 1, -256, -1, 0, 1, 2, 127, 128, 255, 256, api.MaxBody, api.MaxSeq, math.MaxInt - 1, math.MaxInt}

// numbers are of each length that a varint of an int may have.
func numbers() []int {
	l := []int{0, 1, 2, 5, 300, math.MaxInt - 1, math.MaxInt}
	for i := 6; i < 63; i++ {
		l = append(l, 1<<i-1, 1<<i, 1<<i+1)
	}
	return l
}

// noise is n bytes without a pattern, always the same ones.
func noise(n int) []byte {
	b := make([]byte, n)
	state := uint32(n) + 1
	for i := range b {
		state = state*1664525 + 1013904223
		b[i] = byte(state >> 24)
	}
	return b
}

// texts are of each length beside which that of their length's varint grows, and of any bytes.
func texts() []string {
	return []string{"", "a", "\x00", "\xff", "\x80\x80", "a key of 16 byte", "ünïcode ☃", strings.Repeat("\xff", 126), string(noise(127)), string(noise(128)), string(noise(129)), strings.Repeat("x", 16383), string(noise(16384))}
}

func concat(parts ...[]byte) []byte { return bytes.Join(parts, nil) }

// encode is the encoding of a string, as the chapter has it.
func encode(b []byte) []byte { return concat(num.Short(uint64(len(b))), b) }

// model is a sealed body, as the chapter has it.
func model(body []byte) []byte {
	encoding := encode(body)
	sum := crc.Sum(encoding)
	return append(encoding, byte(sum), byte(sum>>8), byte(sum>>16), byte(sum>>24))
}

// sealed is what Seal makes of a body that is not too long.
func sealed(t *testing.T, body []byte) []byte {
	t.Helper()
	b, e := seal.Seal(body)
	if e != api.OK {
		t.Fatalf("Seal of %d bytes fails with %d", len(body), e)
	}
	return b
}

// wantState fails if the reader is not at this place with this error.
func wantState(t *testing.T, what string, r *seal.Reader, left int, e api.Errno) {
	t.Helper()
	if r.Left() != left || r.Err() != e {
		t.Errorf("%s: Left is %d and Err %d; want %d and %d", what, r.Left(), r.Err(), left, e)
	}
}

// wantOpened fails if opening b does not yield body and used.
func wantOpened(t *testing.T, what string, b, body []byte, used int) {
	t.Helper()
	got, n, e := seal.Open(b)
	if e != api.OK || n != used || !bytes.Equal(got, body) {
		t.Errorf("%s: Open of %d bytes is %d bytes, %d, %d; want %d bytes, %d, OK", what, len(b), len(got), n, e, len(body), used)
	}
}

// wantShut fails if opening b does not fail with an error, and zero values beside it.
func wantShut(t *testing.T, what string, b []byte, want api.Errno) {
	t.Helper()
	if got, n, e := seal.Open(b); e != want || n != 0 || len(got) != 0 {
		t.Errorf("%s: Open of %d bytes is %d bytes, %d, %d; want nothing, 0, %d", what, len(b), len(got), n, e, want)
	}
}

// P3.1: what each method writes, from the zero value on.
func TestWriter(t *testing.T) {
	for _, c := range []struct {
		what  string
		write func(w *seal.Writer)
		want  []byte
	}{
		{"nothing", func(w *seal.Writer) {}, nil},
		{"Num(0)", func(w *seal.Writer) { w.Num(0) }, []byte{0}},
		{"Num(5)", func(w *seal.Writer) { w.Num(5) }, []byte{5}},
		{"Num(127)", func(w *seal.Writer) { w.Num(127) }, []byte{127}},
		{"Num(128)", func(w *seal.Writer) { w.Num(128) }, []byte{0x81, 0}},
		{"Num(300)", func(w *seal.Writer) { w.Num(300) }, []byte{0x82, 0x2c}},
		{"Num of the greatest", func(w *seal.Writer) { w.Num(math.MaxInt) }, []byte{255, 255, 255, 255, 255, 255, 255, 255, 127}},
		{"Num(-1)", func(w *seal.Writer) { w.Num(-1) }, []byte{0}},
		{"Num(-128)", func(w *seal.Writer) { w.Num(-128) }, []byte{0}},
		{"Num of the least", func(w *seal.Writer) { w.Num(math.MinInt) }, []byte{0}},
		{"Byte(0)", func(w *seal.Writer) { w.Byte(0) }, []byte{0}},
		{"Byte(128)", func(w *seal.Writer) { w.Byte(128) }, []byte{128}},
		{"Byte(255)", func(w *seal.Writer) { w.Byte(255) }, []byte{255}},
		{"Flag(true)", func(w *seal.Writer) { w.Flag(true) }, []byte{1}},
		{"Flag(false)", func(w *seal.Writer) { w.Flag(false) }, []byte{0}},
		{"Text of nothing", func(w *seal.Writer) { w.Text("") }, []byte{0}},
		{"Text(ab)", func(w *seal.Writer) { w.Text("ab") }, []byte{2, 'a', 'b'}},
		{"Text of bytes that are no characters", func(w *seal.Writer) { w.Text("\x00\xff\x80") }, []byte{3, 0, 255, 128}},
		{"Text of 128 bytes", func(w *seal.Writer) { w.Text(strings.Repeat("x", 128)) }, concat([]byte{0x81, 0}, bytes.Repeat([]byte{'x'}, 128))},
		{"all of them", func(w *seal.Writer) {
			w.Num(300)
			w.Byte(7)
			w.Flag(true)
			w.Text("a")
			w.Flag(false)
			w.Num(-3)
		}, []byte{0x82, 0x2c, 7, 1, 1, 'a', 0, 0}},
	} {
		var w seal.Writer
		c.write(&w)
		if b := w.Bytes(); !bytes.Equal(b, c.want) {
			t.Errorf("%s: Bytes are %v; want %v", c.what, b, c.want)
		}
		if b := w.Bytes(); !bytes.Equal(b, c.want) {
			t.Errorf("%s: Bytes are %v when asked again; want %v", c.what, b, c.want)
		}
	}
}

// P3.1: a long text, and a writer that goes on behind Bytes.
func TestWriterGoesOn(t *testing.T) {
	var w seal.Writer
	var want []byte
	for i, s := range texts() {
		w.Text(s)
		w.Byte(byte(i))
		want = concat(want, encode([]byte(s)), []byte{byte(i)})
		if b := w.Bytes(); !bytes.Equal(b, want) {
			t.Fatalf("Bytes are %d bytes behind text %d; want %d other ones", len(b), i, len(want))
		}
	}
}

// P3.1: a nil writer collects nothing.
func TestNilWriter(t *testing.T) {
	var w *seal.Writer
	for range 2 {
		w.Num(1)
		w.Num(-1)
		w.Byte(1)
		w.Flag(true)
		w.Flag(false)
		w.Text("")
		w.Text("text")
		if b := w.Bytes(); len(b) != 0 {
			t.Errorf("Bytes of a nil writer are %v", b)
		}
	}
}

// P3.1: Num, with limits that just allow the number and just don't, and the order of its errors.
func TestNum(t *testing.T) {
	great := concat([]byte{0x81}, bytes.Repeat([]byte{0x80}, 8), []byte{0}) // 2^63
	tooGreat := concat([]byte{0x82}, bytes.Repeat([]byte{0x80}, 8), []byte{0})
	for _, c := range []struct {
		b    []byte
		most int
		want int
		left int
		e    api.Errno
	}{
		{[]byte{0}, 0, 0, 0, api.OK},
		{[]byte{0, 9}, 0, 0, 1, api.OK},
		{[]byte{0}, math.MaxInt, 0, 0, api.OK},
		{[]byte{1}, 1, 1, 0, api.OK},
		{[]byte{0x82, 0x2c, 5, 6}, 300, 300, 2, api.OK},
		{[]byte{0x82, 0x2c}, math.MaxInt, 300, 0, api.OK},
		{num.Short(api.MaxSeq), api.MaxSeq, api.MaxSeq, 0, api.OK},
		{num.Short(math.MaxInt), math.MaxInt, math.MaxInt, 0, api.OK},
		{[]byte{1}, 0, 0, 1, api.ErrLong},
		{[]byte{0x82, 0x2c, 5}, 299, 0, 3, api.ErrLong},
		{num.Short(api.MaxSeq + 1), api.MaxSeq, 0, 6, api.ErrLong},
		{num.Short(math.MaxInt), math.MaxInt - 1, 0, 9, api.ErrLong},
		{great, math.MaxInt, 0, 10, api.ErrLong},
		{num.Short(math.MaxUint64), math.MaxInt, 0, 10, api.ErrLong},
		{num.Short(math.MaxUint64), -1, 0, 10, api.ErrLong},
		{[]byte{0}, -1, 0, 1, api.ErrLong},
		{[]byte{5}, -1, 0, 1, api.ErrLong},
		{[]byte{0}, math.MinInt, 0, 1, api.ErrLong},
		{tooGreat, math.MaxInt, 0, 10, api.ErrLong},
		{nil, 5, 0, 0, api.ErrShort},
		{nil, -1, 0, 0, api.ErrShort},
		{[]byte{0x81}, 5, 0, 1, api.ErrShort},
		{[]byte{0x81}, 0, 0, 1, api.ErrShort},
		{[]byte{0x81}, -1, 0, 1, api.ErrShort},
		{great[:9], 0, 0, 9, api.ErrShort},
		{[]byte{0x80, 1}, 5, 0, 2, api.ErrForm},
		{[]byte{0x80}, -1, 0, 1, api.ErrForm},
		{[]byte{0x80}, math.MinInt, 0, 1, api.ErrForm},
	} {
		r := seal.Read(c.b)
		if n := r.Num(c.most); n != c.want {
			t.Errorf("Num(%d) of %v is %d; want %d", c.most, c.b, n, c.want)
		}
		wantState(t, "Num", r, c.left, c.e)
	}
}

// P3.1: Num of each length, with each limit.
func TestNumAndLimit(t *testing.T) {
	for _, n := range numbers() {
		b := num.Short(uint64(n))
		for _, most := range append([]int{n - 1, n}, mosts...) {
			r := seal.Read(append(bytes.Clone(b), 128))
			want, left, e := n, 1, api.OK
			if n > most {
				want, left, e = 0, len(b)+1, api.ErrLong
			}
			if got := r.Num(most); got != want {
				t.Errorf("Num(%d) of %d is %d; want %d", most, n, got, want)
			}
			wantState(t, "Num", r, left, e)
		}
	}
}

// P3.1: Byte and Flag of each byte, and of none.
func TestByteAndFlag(t *testing.T) {
	for c := range 256 {
		b := []byte{byte(c), 99}
		r := seal.Read(b)
		if got := r.Byte(); got != byte(c) {
			t.Errorf("Byte of %v is %d", b, got)
		}
		wantState(t, "Byte", r, 1, api.OK)
		r = seal.Read(b)
		if got := r.Flag(); got != (c == 1) {
			t.Errorf("Flag of %v is %t", b, got)
		}
		if c <= 1 {
			wantState(t, "Flag", r, 1, api.OK)
		} else {
			wantState(t, "Flag", r, 2, api.ErrForm)
		}
	}
	for _, b := range [][]byte{nil, {}} {
		r := seal.Read(b)
		if c := r.Byte(); c != 0 {
			t.Errorf("Byte of nothing is %d", c)
		}
		wantState(t, "Byte of nothing", r, 0, api.ErrShort)
		r = seal.Read(b)
		if r.Flag() {
			t.Error("Flag of nothing is true")
		}
		wantState(t, "Flag of nothing", r, 0, api.ErrShort)
	}
}

// P3.1: Text, and the order of its errors: of the length, of the limit, of the bytes.
func TestText(t *testing.T) {
	for _, c := range []struct {
		b    []byte
		most int
		want string
		left int
		e    api.Errno
	}{
		{[]byte{0}, 0, "", 0, api.OK},
		{[]byte{0, 7}, 0, "", 1, api.OK},
		{[]byte{0}, math.MaxInt, "", 0, api.OK},
		{[]byte{2, 'a', 'b'}, 2, "ab", 0, api.OK},
		{[]byte{2, 'a', 'b', 'c'}, 3, "ab", 1, api.OK},
		{[]byte{2, 0, 255}, math.MaxInt, "\x00\xff", 0, api.OK},
		{[]byte{2, 'a', 'b'}, 1, "", 3, api.ErrLong},
		{[]byte{1, 'a'}, 0, "", 2, api.ErrLong},
		{[]byte{0}, -1, "", 1, api.ErrLong},
		{[]byte{1, 'a'}, math.MinInt, "", 2, api.ErrLong},
		{[]byte{2}, 1, "", 1, api.ErrLong},
		{[]byte{2}, -1, "", 1, api.ErrLong},
		{num.Short(1 << 63), math.MaxInt, "", 10, api.ErrLong},
		{num.Short(math.MaxUint64), math.MaxInt, "", 10, api.ErrLong},
		{concat([]byte{0x82}, bytes.Repeat([]byte{0x80}, 9)), 5, "", 10, api.ErrLong},
		{nil, 5, "", 0, api.ErrShort},
		{nil, -1, "", 0, api.ErrShort},
		{[]byte{0x81}, 5, "", 1, api.ErrShort},
		{[]byte{0x81}, -1, "", 1, api.ErrShort},
		{[]byte{1}, 1, "", 1, api.ErrShort},
		{[]byte{3, 'a', 'b'}, 3, "", 3, api.ErrShort},
		{[]byte{0x81, 0, 'a'}, 128, "", 3, api.ErrShort},
		{concat(num.Short(math.MaxInt), []byte("ab")), math.MaxInt, "", 11, api.ErrShort},
		{concat(num.Short(math.MaxInt-9), []byte("ab")), math.MaxInt, "", 11, api.ErrShort},
		{[]byte{0x80, 1, 'a'}, 5, "", 3, api.ErrForm},
		{[]byte{0x80, 1, 'a'}, -1, "", 3, api.ErrForm},
	} {
		r := seal.Read(c.b)
		if s := r.Text(c.most); s != c.want {
			t.Errorf("Text(%d) of %v is %q; want %q", c.most, c.b, s, c.want)
		}
		wantState(t, "Text", r, c.left, c.e)
	}
}

// P3.1: texts as long as the limit, and one byte longer.
func TestTextAndLimit(t *testing.T) {
	for _, s := range texts() {
		b := encode([]byte(s))
		for _, most := range []int{len(s), len(s) + 1, math.MaxInt} {
			r := seal.Read(b)
			if got := r.Text(most); got != s {
				t.Errorf("Text(%d) of %d bytes is %d bytes, or others", most, len(s), len(got))
			}
			wantState(t, "Text", r, 0, api.OK)
		}
		r := seal.Read(b)
		if got := r.Text(len(s) - 1); got != "" {
			t.Errorf("Text(%d) of %d bytes is %q", len(s)-1, len(s), got)
		}
		wantState(t, "Text", r, len(b), api.ErrLong)
	}
}

// failures are each way in which a reader of the bytes 5, 0x80, 2, 'a', 1 meets its first error, and how many bytes it has left then.
var failures = []struct {
	what string
	fail func(r *seal.Reader)
	left int
	e    api.Errno
}{
	{"Num with a negative limit", func(r *seal.Reader) { r.Num(-1) }, 5, api.ErrLong},
	{"Num with a limit that is too small", func(r *seal.Reader) { r.Num(4) }, 5, api.ErrLong},
	{"Num of a leading zero", func(r *seal.Reader) { r.Byte(); r.Num(9) }, 4, api.ErrForm},
	{"Flag of 5", func(r *seal.Reader) { r.Flag() }, 5, api.ErrForm},
	{"Flag of 128", func(r *seal.Reader) { r.Num(5); r.Flag() }, 4, api.ErrForm},
	{"Text that ends too soon", func(r *seal.Reader) { r.Text(5) }, 5, api.ErrShort},
	{"Text that is too long", func(r *seal.Reader) { r.Byte(); r.Byte(); r.Text(1) }, 3, api.ErrLong},
	{"Text of a leading zero", func(r *seal.Reader) { r.Byte(); r.Text(9) }, 4, api.ErrForm},
	{"End with bytes left", func(r *seal.Reader) { r.End() }, 5, api.ErrRest},
	{"End with two bytes left", func(r *seal.Reader) { r.Num(5); r.Byte(); r.Num(2); r.End() }, 2, api.ErrRest},
	{"Byte of nothing", func(r *seal.Reader) { r.Byte(); r.Byte(); r.Text(2); r.Byte() }, 0, api.ErrShort},
	{"Flag of nothing", func(r *seal.Reader) { r.Byte(); r.Byte(); r.Text(2); r.Flag() }, 0, api.ErrShort},
	{"Num of nothing", func(r *seal.Reader) { r.Byte(); r.Byte(); r.Text(2); r.Num(9) }, 0, api.ErrShort},
	{"Text of nothing", func(r *seal.Reader) { r.Byte(); r.Byte(); r.Text(2); r.Text(9) }, 0, api.ErrShort},
}

// P3.1: behind the first error all is zero, and place and error stay, whatever is asked in whatever order.
func TestBehindFirstError(t *testing.T) {
	asks := []func(r *seal.Reader) bool{
		func(r *seal.Reader) bool { return r.Num(math.MaxInt) == 0 },
		func(r *seal.Reader) bool { return r.Num(-1) == 0 },
		func(r *seal.Reader) bool { return r.Byte() == 0 },
		func(r *seal.Reader) bool { return !r.Flag() },
		func(r *seal.Reader) bool { return r.Text(math.MaxInt) == "" },
		func(r *seal.Reader) bool { return r.Text(-1) == "" },
		func(r *seal.Reader) bool { return r.End() == r.Err() },
		func(r *seal.Reader) bool { return r.Err() == r.End() },
	}
	for _, f := range failures {
		for i := range asks {
			r := seal.Read([]byte{5, 0x80, 2, 'a', 1})
			f.fail(r)
			wantState(t, f.what, r, f.left, f.e)
			for k := range asks {
				at := (i + k) % len(asks)
				if !asks[at](r) {
					t.Errorf("behind %s, method %d doesn't answer zero", f.what, at)
				}
				wantState(t, f.what+", and behind it", r, f.left, f.e)
			}
			if e := r.End(); e != f.e {
				t.Errorf("behind %s, End is %d; want %d", f.what, e, f.e)
			}
		}
	}
}

// P3.1: a value that would be right is not read behind an error.
func TestNothingIsSkipped(t *testing.T) {
	r := seal.Read([]byte{2, 1, 1, 1})
	if r.Flag() || r.Err() != api.ErrForm {
		t.Fatalf("Flag of 2 leaves the error %d", r.Err())
	}
	if n, c, is, s := r.Num(9), r.Byte(), r.Flag(), r.Text(9); n != 0 || c != 0 || is || s != "" {
		t.Errorf("behind an error, values are %d, %d, %t, %q", n, c, is, s)
	}
	wantState(t, "behind an error", r, 4, api.ErrForm)
}

// P3.1: End with nothing left, with bytes left, and behind an error.
func TestEnd(t *testing.T) {
	for _, b := range [][]byte{nil, {}} {
		r := seal.Read(b)
		for range 2 {
			if e := r.End(); e != api.OK {
				t.Errorf("End of nothing is %d", e)
			}
			wantState(t, "End of nothing", r, 0, api.OK)
		}
		if c := r.Byte(); c != 0 || r.Err() != api.ErrShort || r.End() != api.ErrShort {
			t.Errorf("behind End, Byte of nothing is %d, and the error %d, %d", c, r.Err(), r.End())
		}
	}
	r := seal.Read([]byte{1, 1})
	if n := r.Num(9); n != 1 {
		t.Errorf("Num is %d", n)
	}
	for range 2 {
		if e := r.End(); e != api.ErrRest {
			t.Errorf("End with a byte left is %d", e)
		}
		wantState(t, "End with a byte left", r, 1, api.ErrRest)
		if n, c, is, s := r.Num(9), r.Byte(), r.Flag(), r.Text(9); n != 0 || c != 0 || is || s != "" {
			t.Errorf("behind End with a byte left, values are %d, %d, %t, %q", n, c, is, s)
		}
	}
	r = seal.Read([]byte{1, 2})
	r.Byte()
	r.Byte()
	if e := r.End(); e != api.OK {
		t.Errorf("End with all bytes read is %d", e)
	}
	r = seal.Read([]byte{7, 7})
	r.Flag()
	if e := r.End(); e != api.ErrForm {
		t.Errorf("End behind an error, with bytes left, is %d", e)
	}
}

// P3.1: a nil reader, in every method.
func TestNilReader(t *testing.T) {
	var r *seal.Reader
	for range 2 {
		for _, most := range mosts {
			if n, s := r.Num(most), r.Text(most); n != 0 || s != "" {
				t.Errorf("a nil reader's Num(%d) and Text are %d and %q", most, n, s)
			}
		}
		if c, is, left := r.Byte(), r.Flag(), r.Left(); c != 0 || is || left != 0 {
			t.Errorf("a nil reader's Byte, Flag and Left are %d, %t and %d", c, is, left)
		}
		if e, end := r.Err(), r.End(); e != api.ErrNil || end != api.ErrNil {
			t.Errorf("a nil reader's Err and End are %d and %d", e, end)
		}
	}
}

// P3.1 and P0.4: a reader of nothing is not nil, and begins without an error.
func TestRead(t *testing.T) {
	for _, b := range [][]byte{nil, {}, {0}, {128}, noise(1000)} {
		r := seal.Read(b)
		if r == nil {
			t.Fatalf("Read(%v) is nil", b)
		}
		wantState(t, "Read", r, len(b), api.OK)
	}
}

// P3.1: the chapter's example, and other bodies' checksums that are known from elsewhere.
func TestSealOfKnownSums(t *testing.T) {
	for _, c := range []struct {
		body string
		want []byte
	}{
		{"", []byte{0, 0x8d, 0xef, 0x02, 0xd2}},
		{"a", []byte{1, 'a', 0x70, 0x72, 0x77, 0x62}},
		{"troth", []byte{5, 't', 'r', 'o', 't', 'h', 0x8d, 0xc7, 0xda, 0x67}},
	} {
		if b := sealed(t, []byte(c.body)); !bytes.Equal(b, c.want) {
			t.Errorf("Seal of %q is %v; want %v", c.body, b, c.want)
		}
		wantOpened(t, c.body, c.want, []byte(c.body), len(c.want))
	}
}

// bodies are of each length at which something changes.
func bodies() [][]byte {
	l := [][]byte{nil, {}, {0}, {255}, []byte("a"), make([]byte, api.MaxBody), bytes.Repeat([]byte{255}, api.MaxBody)}
	for _, n := range []int{2, 3, 4, 5, 126, 127, 128, 129, 242, 255, 256, 257, 1000, api.MaxBody - 1, api.MaxBody} {
		l = append(l, noise(n))
	}
	return l
}

// P3.1: Seal of bodies up to the longest, and one byte beyond.
func TestSeal(t *testing.T) {
	for _, body := range bodies() {
		if b := sealed(t, body); !bytes.Equal(b, model(body)) {
			t.Errorf("Seal of %d bytes is %d bytes, or others than the chapter's", len(body), len(b))
		}
	}
	for _, n := range []int{api.MaxBody + 1, api.MaxBody + 2, 2 * api.MaxBody, 1 << 20} {
		if b, e := seal.Seal(noise(n)); e != api.ErrLong || len(b) != 0 {
			t.Errorf("Seal of %d bytes is %d bytes, %d; want ErrLong", n, len(b), e)
		}
	}
}

// P3.1 and P3.2: Open of what Seal made, whatever bytes follow.
func TestOpen(t *testing.T) {
	for _, body := range bodies() {
		b := sealed(t, body)
		for _, tail := range [][]byte{nil, {0}, {128}, b[:1], b, noise(5000)} {
			wantOpened(t, "a sealed body and a tail", concat(b, tail), body, len(b))
		}
	}
}

// P3.1: the errors of Open, and their order: of the string, of the checksum's length, of the checksum.
func TestOpenErrors(t *testing.T) {
	long := noise(api.MaxBody + 1)
	for _, c := range []struct {
		what string
		b    []byte
		want api.Errno
	}{
		{"nil", nil, api.ErrShort},
		{"no bytes", []byte{}, api.ErrShort},
		{"a length that ends too soon", []byte{0x81}, api.ErrShort},
		{"a length with a leading zero", []byte{0x80, 1, 'a', 0, 0, 0, 0}, api.ErrForm},
		{"a length with a leading zero alone", []byte{0x80}, api.ErrForm},
		{"a length beyond any", concat([]byte{0x82}, bytes.Repeat([]byte{0x80}, 9)), api.ErrLong},
		{"the greatest length", num.Short(math.MaxUint64), api.ErrLong},
		{"the greatest int", concat(num.Short(math.MaxInt), noise(20)), api.ErrLong},
		{"4097 bytes, rightly sealed but for that", model(long), api.ErrLong},
		{"4097 bytes with a wrong checksum", concat(encode(long), []byte{1, 2, 3, 4}), api.ErrLong},
		{"the length 4097 alone", num.Short(api.MaxBody + 1), api.ErrLong},
		{"the length 4096 alone", num.Short(api.MaxBody), api.ErrShort},
		{"4095 of 4096 bytes", concat(num.Short(api.MaxBody), noise(api.MaxBody-1)), api.ErrShort},
		{"4096 bytes without a checksum", encode(noise(api.MaxBody)), api.ErrShort},
		{"three bytes of a checksum", []byte{1, 'a', 0x70, 0x72, 0x77}, api.ErrShort},
		{"three wrong bytes of a checksum", []byte{1, 'a', 1, 2, 3}, api.ErrShort},
		{"the checksum, its highest byte first", []byte{1, 'a', 0x62, 0x77, 0x72, 0x70}, api.ErrSum},
		{"the checksum of the body alone", []byte{1, 'a', 0x43, 0xbe, 0xb7, 0xe8}, api.ErrSum},
		{"a checksum of zeros", make([]byte, 5), api.ErrSum},
		{"a wrong checksum, and bytes behind", append([]byte{1, 'a', 1, 2, 3, 4}, sealed(t, []byte("a"))...), api.ErrSum},
	} {
		wantShut(t, c.what, c.b, c.want)
	}
}

// draw is numbers without a pattern, always the same ones.
type draw uint64

// below is a number from 0 to n - 1.
func (d *draw) below(n int) int {
	*d = *d*6364136223846793005 + 1442695040888963407
	return int(uint64(*d) >> 33 % uint64(n))
}

// value is one that is written and read back: of which kind, and which one.
type value struct {
	kind int
	n    int
	text string
}

func (d *draw) value() value {
	all, strs := numbers(), texts()
	switch kind := d.below(4); kind {
	case 0:
		return value{kind: kind, n: all[d.below(len(all))]}
	case 1:
		return value{kind: kind, n: d.below(256)}
	case 2:
		return value{kind: kind, n: d.below(2)}
	default:
		return value{kind: kind, text: strs[d.below(len(strs))]}
	}
}

func (v value) write(w *seal.Writer) {
	switch v.kind {
	case 0:
		w.Num(v.n)
	case 1:
		w.Byte(byte(v.n))
	case 2:
		w.Flag(v.n == 1)
	default:
		w.Text(v.text)
	}
}

// isNext tells whether a reader's next value is this one, with limits that just allow it.
func (v value) isNext(r *seal.Reader) bool {
	switch v.kind {
	case 0:
		return r.Num(v.n) == v.n
	case 1:
		return r.Byte() == byte(v.n)
	case 2:
		return r.Flag() == (v.n == 1)
	default:
		return r.Text(len(v.text)) == v.text
	}
}

// P3.2: sequences of all kinds of values are read as they were written, each with its own bytes, whatever follows.
func TestRoundTrip(t *testing.T) {
	var d draw
	for range 300 {
		var w seal.Writer
		var values []value
		ends := []int{0}
		for range d.below(30) {
			v := d.value()
			v.write(&w)
			values = append(values, v)
			ends = append(ends, len(w.Bytes()))
		}
		for _, tail := range [][]byte{nil, {0}, {128}, {255, 255}} {
			b := concat(w.Bytes(), tail)
			r := seal.Read(b)
			for i, v := range values {
				if !v.isNext(r) {
					t.Fatalf("value %d, %+v, isn't read as it was written", i, v)
				}
				wantState(t, "behind a value", r, len(b)-ends[i+1], api.OK)
			}
			if e := r.End(); (e == api.OK) != (len(tail) == 0) {
				t.Errorf("End with %d bytes behind is %d", len(tail), e)
			}
		}
	}
}

// P3.2: each proper prefix of a value's encoding fails with ErrShort, so none is another value's.
func TestPrefixOfValue(t *testing.T) {
	for _, n := range numbers() {
		b := num.Short(uint64(n))
		for i := range b {
			r := seal.Read(b[:i])
			if got := r.Num(math.MaxInt); got != 0 {
				t.Errorf("Num of a prefix of %v is %d", b, got)
			}
			wantState(t, "Num of a prefix", r, i, api.ErrShort)
		}
	}
	for _, s := range texts() {
		b := encode([]byte(s))
		for i := 0; i < len(b); i += 1 + i/100 {
			r := seal.Read(b[:i])
			if got := r.Text(math.MaxInt); got != "" {
				t.Errorf("Text of %d of %d bytes is %d bytes", i, len(b), len(got))
			}
			wantState(t, "Text of a prefix", r, i, api.ErrShort)
		}
	}
}

// P3.2: whatever bytes a value was read from, those that were consumed are what it is written as.
func TestConsumed(t *testing.T) {
	var d draw
	interesting := []byte{0, 1, 2, 3, 127, 128, 129, 255}
	for range 20000 {
		b := make([]byte, d.below(14))
		for i := range b {
			b[i] = interesting[d.below(len(interesting))]
		}
		r := seal.Read(b)
		var w seal.Writer
		for r.Err() == api.OK {
			before := w
			switch d.below(4) {
			case 0:
				w.Num(r.Num(math.MaxInt))
			case 1:
				w.Byte(r.Byte())
			case 2:
				w.Flag(r.Flag())
			default:
				w.Text(r.Text(math.MaxInt))
			}
			if r.Err() != api.OK {
				w = before
			}
		}
		if used := b[:len(b)-r.Left()]; !bytes.Equal(w.Bytes(), used) {
			t.Fatalf("of %v, %v was consumed, but is written as %v", b, used, w.Bytes())
		}
	}
}

// P3.2: sealed bodies one behind the other are opened in order.
func TestOpenInOrder(t *testing.T) {
	var all []byte
	for _, body := range bodies() {
		all = append(all, sealed(t, body)...)
	}
	at := 0
	for i, body := range bodies() {
		got, used, e := seal.Open(all[at:])
		if e != api.OK || !bytes.Equal(got, body) || used != len(model(body)) {
			t.Fatalf("body %d is opened as %d bytes, %d, %d", i, len(got), used, e)
		}
		at += used
	}
	if at != len(all) {
		t.Errorf("%d of %d bytes were consumed", at, len(all))
	}
}

// P3.3: each proper prefix of a sealed body.
func TestPrefixOfSealedBody(t *testing.T) {
	for _, body := range bodies() {
		b := sealed(t, body)
		for i := range b {
			// Of long bodies, those that end within the body are alike.
			if i < 300 || i%7 == 0 || i > len(b)-10 {
				wantShut(t, "a proper prefix", b[:i], api.ErrShort)
			}
		}
	}
}

// flip changes bits beginning at one of them, a byte's lowest one first, as the checksum takes them.
func flip(b []byte, from int, pattern uint32) []byte {
	changed := bytes.Clone(b)
	for i := range 32 {
		if pattern>>i&1 == 1 {
			changed[(from+i)/8] ^= 1 << ((from + i) % 8)
		}
	}
	return changed
}

// width is how many bits from the lowest one a pattern has.
func width(pattern uint32) int {
	n := 0
	for ; pattern != 0; pattern >>= 1 {
		n++
	}
	return n
}

// patterns are changes of up to 32 bits, the ones that a checksum of another polynomial, or none, would miss among them.
func patterns() []uint32 {
	l := []uint32{0xFFFFFFFF, 0x7FFFFFFF, 0xFFFFFFFE, 0x55555555, 0xAAAAAAAA, 0xEDB88320, 0xDB710641, 0x04C11DB7, 0x82608EDB, 0x80000001, 0x00FFFF00, 0x01010101}
	for i := range 32 {
		l = append(l, 1<<i, 1<<i|1, 1<<i|1<<31, 1<<31>>i|1)
	}
	var d draw
	for range 60 {
		l = append(l, uint32(d.below(1<<30))<<2|uint32(d.below(4)))
	}
	return l
}

// P3.3: changed bits in the byte string, in the checksum, and across both, wherever they begin; the length before them stays.
func TestChange(t *testing.T) {
	for _, body := range [][]byte{nil, {0}, []byte("a"), []byte("abc"), noise(4), noise(9), noise(130), make([]byte, api.MaxBody), noise(api.MaxBody)} {
		b := sealed(t, body)
		first, all := 8*(len(b)-len(body)-4), 8*len(b)
		for _, pattern := range patterns() {
			if pattern == 0 {
				continue
			}
			for from := first; from+width(pattern) <= all; from++ {
				// Of long bodies, the beginning, some of the middle, and the end with the checksum.
				if all > 1000 && from > first+16 && from < all-72 && from%1777 != 0 {
					continue
				}
				wantShut(t, "changed bits", flip(b, from, pattern), api.ErrSum)
				if t.Failed() {
					t.Fatalf("%d bytes, with %08X changed from bit %d on", len(body), pattern, from)
				}
			}
		}
	}
}

// P3.3: all 2^32 - 1 changes of 32 bits at once. What a change does to the difference of the two checksums, the one that is there and the one that should be, is what its bits do, taken together; the bodies are opened all the same only if those cancel out, which independent ones never do.
func TestChangeOfAny32Bits(t *testing.T) {
	for _, body := range [][]byte{nil, []byte("a"), []byte("abcd"), noise(12), noise(254)} {
		b := sealed(t, body)
		first := 8 * (len(b) - len(body) - 4)
		for from := first; from+32 <= 8*len(b); from++ {
			var basis [32]uint32
			for i := range 32 {
				left := difference(flip(b, from+i, 1))
				for k := 31; k >= 0; k-- {
					if left>>k&1 == 1 && basis[k] != 0 {
						left ^= basis[k]
					}
				}
				if left == 0 {
					t.Fatalf("%d bytes: of the 32 bits from bit %d on, changing some is not seen", len(body), from)
				}
				basis[width(left)-1] = left
			}
		}
	}
}

// difference is what the checksum at the end of bytes is beside theirs: 0 if it is theirs.
func difference(b []byte) uint32 {
	n := len(b) - 4
	there := uint32(b[n]) | uint32(b[n+1])<<8 | uint32(b[n+2])<<16 | uint32(b[n+3])<<24
	return there ^ crc.Sum(b[:n])
}

// P3.4: what Bytes returned is nobody else's.
func TestBytesAreNewMemory(t *testing.T) {
	var w seal.Writer
	w.Text("text")
	want := w.Bytes()
	for _, b := range [][]byte{w.Bytes(), w.Bytes()} {
		whole := b[:cap(b)]
		for i := range whole {
			whole[i] ^= 99
		}
	}
	if b := w.Bytes(); !bytes.Equal(b, want) {
		t.Errorf("a change of Bytes changes the writer: %v", b)
	}
	first := w.Bytes()
	_ = append(first, 77)
	w.Byte(5)
	_ = append(first, 88)
	if b := w.Bytes(); !bytes.Equal(b, append(bytes.Clone(want), 5)) {
		t.Errorf("an append to Bytes changes the writer: %v", b)
	}
	if !bytes.Equal(first, want) {
		t.Errorf("writing on changes what Bytes returned: %v", first)
	}
}

// P3.4: a reader does not mind what becomes of the bytes that it was given, and two readers of them don't mind each other.
func TestReaderKeepsItsBytes(t *testing.T) {
	b := []byte{5, 1, 2, 'a', 'b', 9}
	r, other := seal.Read(b), seal.Read(b)
	other.Num(9)
	other.Flag()
	other.Text(2)
	for i := range b {
		b[i] = 128
	}
	if n, is, s, c := r.Num(9), r.Flag(), r.Text(2), r.Byte(); n != 5 || !is || s != "ab" || c != 9 {
		t.Errorf("a change of a reader's bytes changes its values: %d, %t, %q, %d", n, is, s, c)
	}
	wantState(t, "a reader of changed bytes", r, 0, api.OK)
	wantState(t, "another reader", other, 1, api.OK)
}

// P3.4: a text stays as it was read.
func TestTextIsNewMemory(t *testing.T) {
	b := []byte{2, 'a', 'b'}
	r := seal.Read(b)
	s := r.Text(2)
	b[1] = 'x'
	if s != "ab" {
		t.Errorf("a change of a reader's bytes changes a text to %q", s)
	}
}

// P3.4: Seal and Open share nothing with what they are given, nor with what they returned before.
func TestSealAndOpenShareNothing(t *testing.T) {
	for _, n := range []int{1, 5, 200, api.MaxBody} {
		body := noise(n)
		first, second := sealed(t, body), sealed(t, body)
		opened, _, _ := seal.Open(first)
		again, _, _ := seal.Open(first)
		for i := range first[:cap(first)] {
			first[:cap(first)][i] ^= 99
		}
		for i := range opened[:cap(opened)] {
			opened[:cap(opened)][i] ^= 55
		}
		if !bytes.Equal(body, noise(n)) || !bytes.Equal(second, model(body)) || !bytes.Equal(again, body) {
			t.Errorf("%d bytes: a result shares memory", n)
		}
		for i := range body {
			body[i] = 0
		}
		if !bytes.Equal(second, model(noise(n))) || !bytes.Equal(again, noise(n)) {
			t.Errorf("%d bytes: a result shares memory with the body", n)
		}
	}
}

// P0.3: arguments aren't changed, nor read or written beyond their length.
func TestArguments(t *testing.T) {
	whole := concat(sealed(t, []byte("body")), noise(20))
	kept := bytes.Clone(whole)
	for n := range whole {
		part := whole[:n]
		r := seal.Read(part)
		if r.Left() != n {
			t.Errorf("a reader of the first %d bytes has %d left", n, r.Left())
		}
		r.Text(100)
		r.Num(100)
		r.Byte()
		r.End()
		seal.Open(part)
		seal.Seal(part)
		if !bytes.Equal(whole, kept) {
			t.Fatalf("a call with the first %d bytes changed them to %v", n, whole)
		}
	}
	wantShut(t, "a part of a sealed body, the rest behind its end", whole[:8], api.ErrShort)
}

// P0.4: nil is as good as empty.
func TestNil(t *testing.T) {
	if a, b := sealed(t, nil), sealed(t, []byte{}); !bytes.Equal(a, b) {
		t.Errorf("Seal(nil) is %v, but of no bytes %v", a, b)
	}
	if e, f := seal.Read(nil).End(), seal.Read([]byte{}).End(); e != f {
		t.Errorf("End of nil is %d, but of no bytes %d", e, f)
	}
}

// P0.1 and P0.5: whatever is passed, nothing panics, and a second round answers the same.
func TestAnyArguments(t *testing.T) {
	var d draw
	for range 3000 {
		b := noise(d.below(40))
		if len(b) > 0 {
			b[0] = byte(d.below(256))
		}
		most := mosts[d.below(len(mosts))]
		one, two := seal.Read(b), seal.Read(b)
		for range 6 {
			kind := d.below(5)
			if x, y := ask(one, kind, most), ask(two, kind, most); x != y {
				t.Fatalf("method %d of two readers of %v with %d answers %v and %v", kind, b, most, x, y)
			}
		}
		body, used, e := seal.Open(b)
		again, usedAgain, f := seal.Open(b)
		if !bytes.Equal(body, again) || used != usedAgain || e != f || used > len(b) {
			t.Fatalf("Open of %v differs from call to call", b)
		}
		var w seal.Writer
		w.Num(most)
		w.Text(string(b))
	}
}

// ask is what a reader's method answers, and where it leaves the reader.
func ask(r *seal.Reader, kind, most int) [4]any {
	switch kind {
	case 0:
		return [4]any{r.Num(most), r.Left(), r.Err()}
	case 1:
		return [4]any{r.Byte(), r.Left(), r.Err()}
	case 2:
		return [4]any{r.Flag(), r.Left(), r.Err()}
	case 3:
		return [4]any{r.Text(most), r.Left(), r.Err()}
	default:
		return [4]any{r.End(), r.Left(), r.Err()}
	}
}
