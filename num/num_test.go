package num_test

import (
	"bytes"
	"math"
	"math/big"
	"testing"

	"troth/api"
	"troth/num"
)

const greatest = uint64(math.MaxUint64)

// wrongWidths are all kinds of widths that there are not.
var wrongWidths = []int{0, 9, -1, -8, 16, 64, math.MaxInt, math.MinInt}

// samples are numbers around each power of two, and others between them, rising.
func samples() []uint64 {
	l := []uint64{0, 1}
	for i := 1; i < 64; i++ {
		p := uint64(1) << i
		for _, n := range []uint64{p - 1, p, p + 1, p + p/3} {
			if n > l[len(l)-1] {
				l = append(l, n)
			}
		}
	}
	return append(l, greatest-1, greatest)
}

// tails are bytes that may follow an encoding.
func tails() [][]byte {
	return [][]byte{nil, {0}, {1}, {127}, {128}, {255}, {128, 128, 128}, bytes.Repeat([]byte{255}, 20), bytes.Repeat([]byte{0}, 20)}
}

// fits tells whether a number has an encoding of a width.
func fits(n uint64, wide int) bool {
	return new(big.Int).SetUint64(n).BitLen() <= 8*wide
}

func join(a, b []byte) []byte { return append(bytes.Clone(a), b...) }

// P1.1: Wide, with the number that just fits and the one that just doesn't.
func TestWide(t *testing.T) {
	for _, c := range []struct {
		n    uint64
		wide int
		want []byte
	}{
		{258, 2, []byte{1, 2}},
		{0, 1, []byte{0}},
		{255, 1, []byte{255}},
		{5, 3, []byte{0, 0, 5}},
		{65535, 2, []byte{255, 255}},
		{65536, 3, []byte{1, 0, 0}},
		{1<<40 - 1, 5, []byte{255, 255, 255, 255, 255}},
		{0, 8, make([]byte, 8)},
		{0x0102030405060708, 8, []byte{1, 2, 3, 4, 5, 6, 7, 8}},
		{greatest, 8, bytes.Repeat([]byte{255}, 8)},
	} {
		if b, e := num.Wide(c.n, c.wide); e != api.OK || !bytes.Equal(b, c.want) {
			t.Errorf("Wide(%d, %d) is %v, %d; want %v", c.n, c.wide, b, e, c.want)
		}
	}
	for wide := 1; wide < 8; wide++ {
		n := uint64(1) << (8 * wide)
		if b, e := num.Wide(n-1, wide); e != api.OK || !bytes.Equal(b, bytes.Repeat([]byte{255}, wide)) {
			t.Errorf("Wide(%d, %d) is %v, %d", n-1, wide, b, e)
		}
		for _, m := range []uint64{n, n + 1, greatest} {
			if b, e := num.Wide(m, wide); e != api.ErrArg || len(b) != 0 {
				t.Errorf("Wide(%d, %d) is %v, %d; want ErrArg", m, wide, b, e)
			}
		}
	}
}

// P1.1: a wrong width is refused, whatever the number.
func TestWideOfWrongWidth(t *testing.T) {
	for _, wide := range wrongWidths {
		for _, n := range []uint64{0, 1, 256, greatest} {
			if b, e := num.Wide(n, wide); e != api.ErrArg || len(b) != 0 {
				t.Errorf("Wide(%d, %d) is %v, %d; want ErrArg", n, wide, b, e)
			}
		}
	}
}

// P1.1: TakeWide, and the order of its errors.
func TestTakeWide(t *testing.T) {
	eight := []byte{1, 2, 3, 4, 5, 6, 7, 8}
	for _, c := range []struct {
		b    []byte
		wide int
		want uint64
	}{
		{[]byte{1, 2}, 2, 258},
		{[]byte{0}, 1, 0},
		{[]byte{0, 0, 5}, 3, 5},
		{[]byte{255, 9, 9}, 1, 255},
		{eight, 1, 1},
		{eight, 8, 0x0102030405060708},
		{append(eight, 9), 8, 0x0102030405060708},
		{bytes.Repeat([]byte{255}, 9), 8, greatest},
	} {
		if n, e := num.TakeWide(c.b, c.wide); e != api.OK || n != c.want {
			t.Errorf("TakeWide(%v, %d) is %d, %d; want %d", c.b, c.wide, n, e, c.want)
		}
	}
	for wide := 1; wide <= 8; wide++ {
		for _, b := range [][]byte{nil, {}, eight[:wide-1]} {
			if n, e := num.TakeWide(b, wide); e != api.ErrShort || n != 0 {
				t.Errorf("TakeWide(%v, %d) is %d, %d; want ErrShort", b, wide, n, e)
			}
		}
	}
	for _, wide := range wrongWidths {
		for _, b := range [][]byte{nil, {}, {1}, eight, make([]byte, 100)} {
			if n, e := num.TakeWide(b, wide); e != api.ErrArg || n != 0 {
				t.Errorf("TakeWide(%v, %d) is %d, %d; want ErrArg", b, wide, n, e)
			}
		}
	}
}

// P1.1: Short.
func TestShort(t *testing.T) {
	for _, c := range []struct {
		n    uint64
		want []byte
	}{
		{0, []byte{0}},
		{1, []byte{1}},
		{5, []byte{5}},
		{127, []byte{127}},
		{128, []byte{0x81, 0}},
		{129, []byte{0x81, 1}},
		{300, []byte{0x82, 0x2c}},
		{1<<14 - 1, []byte{255, 127}},
		{1 << 14, []byte{0x81, 0x80, 0}},
		{1<<63 - 1, []byte{255, 255, 255, 255, 255, 255, 255, 255, 127}},
		{1 << 63, []byte{0x81, 0x80, 0x80, 0x80, 0x80, 0x80, 0x80, 0x80, 0x80, 0}},
		{greatest, []byte{0x81, 255, 255, 255, 255, 255, 255, 255, 255, 127}},
	} {
		if b := num.Short(c.n); !bytes.Equal(b, c.want) {
			t.Errorf("Short(%d) is %v; want %v", c.n, b, c.want)
		}
	}
}

// P1.1: TakeShort, with the greatest number and bytes behind an encoding.
func TestTakeShort(t *testing.T) {
	for _, c := range []struct {
		b    []byte
		want uint64
		used int
	}{
		{[]byte{0}, 0, 1},
		{[]byte{0, 5}, 0, 1},
		{[]byte{127}, 127, 1},
		{[]byte{5, 128, 128}, 5, 1},
		{[]byte{0x81, 0}, 128, 2},
		{[]byte{0x81, 0, 0x81}, 128, 2},
		{[]byte{0x82, 0x2c, 7}, 300, 2},
		{[]byte{0x81, 0x80, 0}, 1 << 14, 3},
		{[]byte{255, 255, 255, 255, 255, 255, 255, 255, 127}, 1<<63 - 1, 9},
		{[]byte{0x81, 128, 128, 128, 128, 128, 128, 128, 128, 0}, 1 << 63, 10},
		{[]byte{0x81, 255, 255, 255, 255, 255, 255, 255, 255, 127, 255}, greatest, 10},
	} {
		if n, used, e := num.TakeShort(c.b); e != api.OK || n != c.want || used != c.used {
			t.Errorf("TakeShort(%v) is %d, %d, %d; want %d, %d", c.b, n, used, e, c.want, c.used)
		}
	}
}

// P1.1: TakeShort returns the first error that it meets, byte by byte, and zeros.
func TestTakeShortErrors(t *testing.T) {
	ones := bytes.Repeat([]byte{255}, 30)
	zeros := bytes.Repeat([]byte{128}, 30)
	for _, c := range []struct {
		what string
		b    []byte
		want api.Errno
	}{
		{"nil", nil, api.ErrShort},
		{"empty", []byte{}, api.ErrShort},
		{"one digit, and more should follow", []byte{0x81}, api.ErrShort},
		{"nine digits", ones[:9], api.ErrShort},
		{"nine digits, which any other one makes too long", join([]byte{0x82}, zeros[:8]), api.ErrShort},
		{"2^64 - 1, and more should follow", join([]byte{0x81}, ones[:9]), api.ErrShort},
		{"a leading zero alone", []byte{128}, api.ErrForm},
		{"a leading zero", []byte{128, 1}, api.ErrForm},
		{"two leading zeros", []byte{128, 128}, api.ErrForm},
		{"a leading zero of a number that is too long", zeros, api.ErrForm},
		{"2^64", join([]byte{0x82}, append(bytes.Clone(zeros[:8]), 0)), api.ErrLong},
		{"2^64 and bytes behind", join([]byte{0x82}, append(bytes.Clone(zeros[:8]), 0, 1, 2)), api.ErrLong},
		{"too long ahead of the end", join([]byte{0x82}, zeros[:9]), api.ErrLong},
		{"ten greatest digits", join(ones[:9], []byte{127}), api.ErrLong},
		{"ten greatest digits without an end", ones[:10], api.ErrLong},
		{"eleven digits", join([]byte{0x81}, append(bytes.Clone(ones[:9]), 0)), api.ErrLong},
		{"many zero digits", join([]byte{0x81}, zeros), api.ErrLong},
		{"many digits", ones, api.ErrLong},
	} {
		if n, used, e := num.TakeShort(c.b); e != c.want || n != 0 || used != 0 {
			t.Errorf("TakeShort of %s, %v, is %d, %d, %d; want %d", c.what, c.b, n, used, e, c.want)
		}
	}
}

// foldModel is Fold, with numbers of any length.
func foldModel(b []byte, n int) int {
	value, by, most := new(big.Int), big.NewInt(31), big.NewInt(int64(n))
	for _, c := range b {
		value.Mul(value, by)
		value.Add(value, big.NewInt(int64(c)))
		value.Mod(value, most)
	}
	return int(value.Int64())
}

// P1.1: Fold, from n below 1 to the greatest n.
func TestFold(t *testing.T) {
	if n := num.Fold([]byte("ab"), 10); n != 5 {
		t.Errorf("Fold of \"ab\" with 10 is %d; want 5", n)
	}
	if n := num.Fold([]byte("ab"), math.MaxInt); n != 3105 {
		t.Errorf("Fold of \"ab\" with the greatest n is %d; want 3105", n)
	}
	texts := [][]byte{nil, {}, {0}, {1}, {255}, []byte("a"), []byte("ba"), []byte("a key of 16 byte"), bytes.Repeat([]byte{255}, 200)}
	for _, b := range texts {
		for _, n := range []int{0, -1, -10, math.MinInt} {
			if k := num.Fold(b, n); k != 0 {
				t.Errorf("Fold(%v, %d) is %d; want 0", b, n, k)
			}
		}
		for _, n := range []int{1, 2, 3, 8, 10, 31, 64, 255, 256, 1 << 32, 1<<40 + 1, 1 << 62, math.MaxInt - 1, math.MaxInt} {
			if k, want := num.Fold(b, n), foldModel(b, n); k != want || k < 0 || k >= n {
				t.Errorf("Fold(%v, %d) is %d; want %d", b, n, k, want)
			}
		}
	}
}

// P1.2: an encoded number is decoded, whatever follows.
func TestRoundTrip(t *testing.T) {
	for _, n := range samples() {
		for _, tail := range tails() {
			b := num.Short(n)
			if m, used, e := num.TakeShort(join(b, tail)); e != api.OK || m != n || used != len(b) {
				t.Errorf("TakeShort of Short(%d) and %v is %d, %d, %d", n, tail, m, used, e)
			}
			for wide := 1; wide <= 8; wide++ {
				b, e := num.Wide(n, wide)
				if (e == api.OK) != fits(n, wide) {
					t.Fatalf("Wide(%d, %d) is %v, %d", n, wide, b, e)
				}
				if e != api.OK {
					continue
				}
				if m, e := num.TakeWide(join(b, tail), wide); e != api.OK || m != n || len(b) != wide {
					t.Errorf("TakeWide of Wide(%d, %d) and %v is %d, %d", n, wide, tail, m, e)
				}
			}
		}
	}
}

// base31 is bytes whose Fold is a number, if n is greater.
func base31(value uint64) []byte {
	var b []byte
	for ; value > 0; value /= 31 {
		b = append([]byte{byte(value % 31)}, b...)
	}
	return b
}

// P1.1: Fold with the greatest n, where 31 times the value ends just below a multiple of 2^64, and the byte goes beyond it.
func TestFoldCarries(t *testing.T) {
	of31 := new(big.Int).ModInverse(big.NewInt(31), new(big.Int).Lsh(big.NewInt(1), 64)).Uint64()
	tried := 0
	for k := uint64(1); k < 256; k++ {
		value := -k * of31
		if value >= math.MaxInt {
			continue
		}
		tried++
		for _, c := range []byte{byte(k - 1), byte(k), 255} {
			b := append(base31(value), c)
			if got, want := num.Fold(b, math.MaxInt), foldModel(b, math.MaxInt); got != want {
				t.Errorf("Fold(%v, greatest) is %d; want %d", b, got, want)
			}
		}
	}
	if tried == 0 {
		t.Error("no value was tried")
	}
}

// byteStrings are all strings of one and two bytes, and many longer ones of bytes that mean something in a varint.
func byteStrings() [][]byte {
	var l [][]byte
	for i := range 256 {
		l = append(l, []byte{byte(i)})
		for k := range 256 {
			l = append(l, []byte{byte(i), byte(k)})
		}
	}
	longer := [][]byte{{}}
	for range 11 {
		var next [][]byte
		for _, b := range longer {
			for _, c := range []byte{0, 128, 129, 255} {
				next = append(next, join(b, []byte{c}))
			}
		}
		l = append(l, next...)
		longer = next
		if len(next) > 4096 { // all of them would be too many
			longer = nil
			for i := 0; i < len(next); i += 5 {
				longer = append(longer, next[i])
			}
		}
	}
	return l
}

// P1.2: what is consumed is exactly the encoding, so no number has two.
func TestConsumed(t *testing.T) {
	for _, b := range byteStrings() {
		if n, used, e := num.TakeShort(b); e == api.OK && !bytes.Equal(num.Short(n), b[:used]) {
			t.Fatalf("TakeShort(%v) is %d, %d, but Short of it is %v", b, n, used, num.Short(n))
		}
		for wide := 1; wide <= 8 && wide <= len(b); wide++ {
			n, e := num.TakeWide(b, wide)
			if e != api.OK {
				t.Fatalf("TakeWide(%v, %d) fails with %d", b, wide, e)
			}
			if w, e := num.Wide(n, wide); e != api.OK || !bytes.Equal(w, b[:wide]) {
				t.Fatalf("TakeWide(%v, %d) is %d, but Wide of it is %v, %d", b, wide, n, w, e)
			}
		}
	}
}

// P1.3: no proper prefix of a varint is decoded.
func TestPrefix(t *testing.T) {
	for _, n := range samples() {
		b := num.Short(n)
		for i := range b {
			if m, used, e := num.TakeShort(b[:i]); e != api.ErrShort || m != 0 || used != 0 {
				t.Errorf("TakeShort(%v), a prefix of Short(%d), is %d, %d, %d; want ErrShort", b[:i], n, m, used, e)
			}
		}
	}
}

// P1.4: the order of numbers is that of their encodings.
func TestOrder(t *testing.T) {
	l := samples()
	for i, a := range l {
		for _, b := range l[i+1:] {
			if x, y := num.Short(a), num.Short(b); len(x) > len(y) {
				t.Errorf("Short(%d) is %v, longer than Short(%d), %v", a, x, b, y)
			}
			for wide := 1; wide <= 8; wide++ {
				if !fits(b, wide) {
					continue
				}
				x, _ := num.Wide(a, wide)
				y, _ := num.Wide(b, wide)
				if len(x) != wide || len(y) != wide || bytes.Compare(x, y) >= 0 {
					t.Errorf("Wide(%d, %d) is %v, not below Wide(%d, %d), %v", a, wide, x, b, wide, y)
				}
			}
		}
	}
}

// P0.1: whatever bytes and numbers are passed, nothing panics.
func TestNothingPanics(t *testing.T) {
	for _, b := range append(byteStrings(), nil, bytes.Repeat([]byte{255}, 1000)) {
		num.TakeShort(b)
		for _, n := range append([]int{1, 2, 7, 8}, wrongWidths...) {
			num.TakeWide(b, n)
			num.Fold(b, n)
			num.Wide(uint64(len(b)), n)
		}
	}
}

// P0.3: arguments aren't changed, nor read beyond their length.
func TestArguments(t *testing.T) {
	whole := []byte{0x81, 0x82, 3, 4, 5, 6, 7, 8, 9}
	kept := bytes.Clone(whole)
	if _, _, e := num.TakeShort(whole[:2]); e != api.ErrShort {
		t.Errorf("TakeShort of a part is %d; want ErrShort", e)
	}
	if _, e := num.TakeWide(whole[:2], 3); e != api.ErrShort {
		t.Errorf("TakeWide of a part is %d; want ErrShort", e)
	}
	if n := num.Fold(whole[:0], 10); n != 0 {
		t.Errorf("Fold of an empty part is %d; want 0", n)
	}
	num.TakeShort(whole)
	num.TakeWide(whole, 8)
	num.Fold(whole, 1000)
	if !bytes.Equal(whole, kept) {
		t.Errorf("arguments were changed to %v", whole)
	}
}

// P0.3: results are new memory.
func TestResults(t *testing.T) {
	fill := func(b []byte) {
		for i := range b[:cap(b)] {
			b[:cap(b)][i] = 99
		}
	}
	for _, n := range samples() {
		first, second := num.Short(n), num.Short(n)
		kept := bytes.Clone(second)
		fill(first)
		if !bytes.Equal(second, kept) || !bytes.Equal(num.Short(n), kept) {
			t.Errorf("results of Short(%d) share memory", n)
		}
		first, _ = num.Wide(n, 8)
		second, _ = num.Wide(n, 8)
		kept = bytes.Clone(second)
		fill(first)
		third, _ := num.Wide(n, 8)
		if !bytes.Equal(second, kept) || !bytes.Equal(third, kept) {
			t.Errorf("results of Wide(%d, 8) share memory", n)
		}
	}
}
