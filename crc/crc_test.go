package crc_test

import (
	"bytes"
	"math"
	"testing"

	"troth/crc"
)

// period is how many shifts by a byte leave every register as it was: the polynomial is primitive.
const period = math.MaxUint32

// model is the chapter's definition, bit by bit.
func model(b []byte) uint32 {
	reg := ^uint32(0)
	for _, c := range b {
		reg ^= uint32(c)
		for range 8 {
			out := reg & 1
			reg >>= 1
			if out == 1 {
				reg ^= 0xEDB88320
			}
		}
	}
	return ^reg
}

// noise is n bytes without a pattern, always the same ones.
func noise(n int) []byte {
	b := make([]byte, n)
	state := uint32(n) + 1
	for i := range b {
		state = state*1664525 + 1013904223
		b[i] = byte(state >> 24)
	}
	return b
}

// texts are byte strings of many lengths: alike bytes, rising ones, and noise.
func texts() [][]byte {
	l := [][]byte{nil, {}, []byte("123456789"), []byte("a key of 16 byte"), []byte("troth")}
	for _, n := range []int{1, 2, 3, 4, 5, 7, 8, 9, 15, 16, 31, 32, 33, 63, 64, 65, 254, 255, 256, 257, 1000} {
		l = append(l, make([]byte, n), bytes.Repeat([]byte{255}, n), bytes.Repeat([]byte{0x80, 1}, n), noise(n))
	}
	return l
}

// sums are checksums that have nothing to do with any text here.
var sums = []uint32{0, 1, 2, 0x80000000, 0x7FFFFFFF, 0xEDB88320, 0x04C11DB7, 0xCBF43926, 0xDEBB20E3, 0xFFFFFFFE, 0xFFFFFFFF}

func concat(parts ...[]byte) []byte { return bytes.Join(parts, nil) }

// P2.1: checksums that are known from elsewhere.
func TestSum(t *testing.T) {
	for _, c := range []struct {
		b    []byte
		want uint32
	}{
		{nil, 0},
		{[]byte{}, 0},
		{[]byte("123456789"), 0xCBF43926},
		{[]byte("a"), 0xE8B7BE43},
		{[]byte("abc"), 0x352441C2},
		{[]byte("The quick brown fox jumps over the lazy dog"), 0x414FA339},
		{[]byte{0}, 0xD202EF8D},
		{[]byte{255}, 0xFF000000},
		{make([]byte, 4), 0x2144DF1C},
		{bytes.Repeat([]byte{255}, 4), 0xFFFFFFFF},
		{make([]byte, 32), 0x190A55AD},
		{bytes.Repeat([]byte{255}, 32), 0xFF6CAB0B},
	} {
		if s := crc.Sum(c.b); s != c.want {
			t.Errorf("Sum(%v) is %08X; want %08X", c.b, s, c.want)
		}
	}
}

// P2.1: each byte, behind nothing and behind others, and all texts, as the definition has them.
func TestSumIsAsDefined(t *testing.T) {
	for _, first := range [][]byte{nil, {0}, {0x5A}, []byte("12345"), noise(300)} {
		for c := range 256 {
			b := concat(first, []byte{byte(c)}, []byte("tail"))
			for n := len(first); n <= len(b); n++ {
				if s, want := crc.Sum(b[:n]), model(b[:n]); s != want {
					t.Fatalf("Sum(%v) is %08X; want %08X", b[:n], s, want)
				}
			}
		}
	}
	for _, b := range append(texts(), noise(100000)) {
		if s, want := crc.Sum(b), model(b); s != want {
			t.Errorf("Sum of %d bytes is %08X; want %08X", len(b), s, want)
		}
	}
}

// P2.2: a text cut in two at each of its places, the empty parts among them.
func TestJoin(t *testing.T) {
	for _, b := range texts() {
		want := crc.Sum(b)
		for at := 0; at <= len(b); at++ {
			first, second := b[:at], b[at:]
			if s := crc.Join(crc.Sum(first), crc.Sum(second), len(second)); s != want {
				t.Errorf("Join of %d and %d bytes is %08X; want %08X", len(first), len(second), s, want)
			}
		}
	}
}

// P2.2: each text behind each other.
func TestJoinOfTwo(t *testing.T) {
	l := texts()
	for _, first := range l {
		for _, second := range l {
			want := model(concat(first, second))
			if s := crc.Join(crc.Sum(first), crc.Sum(second), len(second)); s != want {
				t.Errorf("Join of %d and %d bytes is %08X; want %08X", len(first), len(second), s, want)
			}
		}
	}
}

// P2.2: an empty second text changes nothing; an empty first one leaves the second's.
func TestJoinOfEmpty(t *testing.T) {
	for _, a := range sums {
		if s := crc.Join(a, crc.Sum(nil), 0); s != a {
			t.Errorf("Join of %08X and an empty text is %08X", a, s)
		}
		for _, n := range []int{1, 2, 3, 255, 1 << 20, math.MaxInt} {
			if s := crc.Join(crc.Sum(nil), a, n); s != a {
				t.Errorf("Join of an empty text and %08X of %d bytes is %08X", a, n, s)
			}
		}
	}
}

// P2.2: n below 1, where the sums may be any.
func TestJoinBelowOne(t *testing.T) {
	for _, n := range []int{0, -1, -2, -3, -8, -256, -1 << 31, -1 << 32, math.MinInt + 1, math.MinInt} {
		for _, a := range sums {
			for _, b := range sums {
				if s := crc.Join(a, b, n); s != a^b {
					t.Errorf("Join(%08X, %08X, %d) is %08X; want %08X", a, b, n, s, a^b)
				}
			}
		}
	}
}

// P2.2: second texts of each length that is a power of two or beside one, as long as they fit into memory.
func TestJoinWithLongText(t *testing.T) {
	first := []byte("first")
	whole := append(bytes.Clone(first), noise(1<<20+1)...)
	for k := range 21 {
		for _, n := range []int{1<<k - 1, 1 << k, 1<<k + 1} {
			second := whole[len(first) : len(first)+n]
			want := crc.Sum(whole[:len(first)+n])
			if s := crc.Join(crc.Sum(first), crc.Sum(second), n); s != want {
				t.Errorf("Join with %d bytes is %08X; want %08X", n, s, want)
			}
		}
	}
}

// P2.2: huge n are told by smaller ones: any number of whole periods changes nothing.
func TestJoinWithHugeText(t *testing.T) {
	const most = math.MaxInt / period
	for _, periods := range []int{1, 2, 3, 255, 1 << 16, 1<<20 + 1, 1 << 30, most - 1, most} {
		for _, second := range [][]byte{nil, {0}, {7}, []byte("123456789"), noise(1000)} {
			n := periods*period + len(second)
			for _, first := range [][]byte{nil, {0}, []byte("first"), noise(77)} {
				want := model(concat(first, second))
				if s := crc.Join(model(first), model(second), n); s != want {
					t.Errorf("Join with %d bytes is %08X; want %08X", n, s, want)
				}
			}
		}
	}
}

// P2.2: of three texts, whichever two are joined first, up to the greatest n. Texts of four bytes and more may have any sum.
func TestJoinOfThree(t *testing.T) {
	for k := 3; k < 62; k++ {
		for _, n := range []int{1<<k - 1, 1 << k, 1<<k + 1} {
			for _, m := range []int{4, n, math.MaxInt - n} {
				for i, b := range sums {
					a, c := sums[(i+3)%len(sums)], sums[(i+7)%len(sums)]
					left := crc.Join(crc.Join(a, b, n), c, m)
					right := crc.Join(a, crc.Join(b, c, m), n+m)
					if left != right {
						t.Errorf("%08X with %08X of %d bytes and %08X of %d: joined from the left %08X, from the right %08X", a, b, n, c, m, left, right)
					}
				}
			}
		}
	}
}

// P2.3: behind each text, for each sum.
func TestPatch(t *testing.T) {
	for _, b := range texts() {
		for _, want := range append([]uint32{crc.Sum(b), ^crc.Sum(b)}, sums...) {
			patch := crc.Patch(b, want)
			if len(patch) != 4 {
				t.Fatalf("Patch of %d bytes for %08X is %v; want four bytes", len(b), want, patch)
			}
			if s := model(concat(b, patch)); s != want {
				t.Errorf("%d bytes and their Patch for %08X have %08X", len(b), want, s)
			}
		}
	}
}

// P2.3: each bit of the wanted sum is minded.
func TestPatchOfEachBit(t *testing.T) {
	for _, b := range [][]byte{nil, []byte("123456789"), noise(40)} {
		for i := range 32 {
			for _, want := range []uint32{1 << i, ^(uint32(1) << i)} {
				if s := model(concat(b, crc.Patch(b, want))); s != want {
					t.Errorf("%v and its Patch for %08X have %08X", b, want, s)
				}
			}
		}
	}
}

// P2.3: there is but one such patch, so four bytes' own sum leads back to them.
func TestPatchIsFourBytesOfTheirSum(t *testing.T) {
	for _, b := range [][]byte{nil, {}, []byte("troth"), noise(200)} {
		for _, four := range [][]byte{{0, 0, 0, 0}, {1, 0, 0, 0}, {0, 0, 0, 1}, {1, 2, 3, 4}, {255, 255, 255, 255}, {0x12, 0x34, 0x56, 0x78}} {
			if patch := crc.Patch(b, model(concat(b, four))); !bytes.Equal(patch, four) {
				t.Errorf("Patch behind %d bytes is %v; want %v", len(b), patch, four)
			}
		}
	}
}

// flip changes bits beginning at one of them. A byte's bits follow each other as the register takes them, the lowest one first: that is the order in which P2.4 counts.
// With the highest one first it would not hold, for whatever checksum is as defined: 0A 1E E9 D5 E0 changes 31 bits that follow each other so, and no sum.
func flip(b []byte, from int, pattern uint32) []byte {
	changed := bytes.Clone(b)
	for i := range 32 {
		if pattern>>i&1 == 1 {
			changed[(from+i)/8] ^= 1 << ((from + i) % 8)
		}
	}
	return changed
}

// patterns are changes of up to 32 bits: each of up to 8 bits at the lower end, at the upper end and at both, and some in which all or half the bits change.
func patterns() []uint32 {
	l := []uint32{0xFFFFFFFF, 0x7FFFFFFF, 0xFFFFFFFE, 0x55555555, 0xAAAAAAAA, 0xEDB88320, 0xDB710641, 0x04C11DB7, 0x82608EDB, 0x80000001, 0x00FFFF00}
	for low := range uint32(256) {
		if low > 0 {
			l = append(l, low, low<<24, low|1<<31, low<<24|1, low<<12)
		}
	}
	return l
}

// width is how many bits from the lowest one a pattern has.
func width(pattern uint32) int {
	n := 0
	for ; pattern != 0; pattern >>= 1 {
		n++
	}
	return n
}

// P2.4: such a change at each place of short texts, and at the beginning, around the middle and at the end of longer ones.
func TestChange(t *testing.T) {
	for _, b := range [][]byte{{0}, {255}, {1, 2}, []byte("abc"), make([]byte, 4), []byte("12345"), []byte("123456789"), noise(20), noise(256)} {
		sum, all := crc.Sum(b), 8*len(b)
		for _, pattern := range patterns() {
			for from := 0; from+width(pattern) <= all; from++ {
				if all > 200 && from > 40 && from < all-80 && (from < all/2 || from > all/2+10) {
					continue
				}
				if crc.Sum(flip(b, from, pattern)) == sum {
					t.Fatalf("%d bytes have the same sum with %08X changed from bit %d on", len(b), pattern, from)
				}
			}
		}
	}
}

// P2.4: each single bit, and no two of them alike.
func TestChangeOfOneBit(t *testing.T) {
	for _, n := range []int{1, 2, 4, 5, 32, 254, 1000} {
		b := noise(n)
		sum, seen := crc.Sum(b), map[uint32]int{}
		for at := range 8 * n {
			s := crc.Sum(flip(b, at, 1))
			if s == sum {
				t.Errorf("%d bytes have the same sum with bit %d changed", n, at)
			}
			if before, is := seen[s]; is {
				t.Errorf("%d bytes have the same sum with bit %d changed or bit %d", n, at, before)
			}
			seen[s] = at
		}
	}
}

// P2.4: all 2^32 - 1 changes of 32 bits at once. What a change does to the sum is what its bits do, taken together: the change does nothing only if those of its bits cancel out, which independent ones never do.
func TestChangeOfAny32Bits(t *testing.T) {
	for _, b := range [][]byte{[]byte("1234"), []byte("12345"), noise(12), noise(254)} {
		sum := crc.Sum(b)
		for from := 0; from+32 <= 8*len(b); from++ {
			var basis [32]uint32
			for i := range 32 {
				left := reduce(basis, crc.Sum(flip(b, from+i, 1))^sum)
				if left == 0 {
					t.Fatalf("%d bytes: of the 32 bits from bit %d on, changing some has no effect", len(b), from)
				}
				basis[width(left)-1] = left
			}
			for _, pattern := range sums {
				var alone uint32
				for i := range 32 {
					if pattern>>i&1 == 1 {
						alone ^= crc.Sum(flip(b, from+i, 1)) ^ sum
					}
				}
				if crc.Sum(flip(b, from, pattern))^sum != alone {
					t.Fatalf("%d bytes: %08X changed from bit %d on isn't what its bits do", len(b), pattern, from)
				}
			}
		}
	}
}

// reduce takes from a number what the ones of a basis make, each of which stands where its highest bit is; 0: all of it.
func reduce(basis [32]uint32, n uint32) uint32 {
	for i := 31; i >= 0; i-- {
		if n>>i&1 == 1 && basis[i] != 0 {
			n ^= basis[i]
		}
	}
	return n
}

// P0.1 and P0.5: whatever is passed, nothing panics, and a second call returns the same.
func TestAnyArguments(t *testing.T) {
	numbers := []int{math.MinInt, -1 << 33, -1, 0, 1, 7, 1 << 33, math.MaxInt}
	for _, b := range texts() {
		for _, want := range sums {
			if !bytes.Equal(crc.Patch(b, want), crc.Patch(b, want)) {
				t.Errorf("Patch of %d bytes for %08X differs from call to call", len(b), want)
			}
		}
		if crc.Sum(b) != crc.Sum(b) {
			t.Errorf("Sum of %d bytes differs from call to call", len(b))
		}
	}
	for _, a := range sums {
		for _, b := range sums {
			for _, n := range numbers {
				if crc.Join(a, b, n) != crc.Join(a, b, n) {
					t.Errorf("Join(%08X, %08X, %d) differs from call to call", a, b, n)
				}
			}
		}
	}
}

// P0.3: arguments aren't changed, nor what is behind them in their memory.
func TestArguments(t *testing.T) {
	whole := noise(64)
	kept := bytes.Clone(whole)
	for n := range whole {
		part := whole[:n]
		if s := crc.Sum(part); s != model(bytes.Clone(part)) {
			t.Errorf("Sum of the first %d bytes is %08X", n, s)
		}
		crc.Patch(part, 0xCBF43926)
		if !bytes.Equal(whole, kept) {
			t.Fatalf("a call with the first %d bytes changed them to %v", n, whole)
		}
	}
}

// P0.3: results are new memory.
func TestResults(t *testing.T) {
	b := []byte("123456789")
	first, second := crc.Patch(b, 1), crc.Patch(b, 1)
	kept := bytes.Clone(second)
	for i := range first[:cap(first)] {
		first[:cap(first)][i] ^= 99
	}
	if !bytes.Equal(second, kept) || !bytes.Equal(crc.Patch(b, 1), kept) || string(b) != "123456789" {
		t.Error("a result of Patch shares memory")
	}
}

// P0.4: nil is as good as empty.
func TestNil(t *testing.T) {
	if crc.Sum(nil) != crc.Sum([]byte{}) {
		t.Error("Sum of nil isn't that of no bytes")
	}
	for _, want := range sums {
		if p, q := crc.Patch(nil, want), crc.Patch([]byte{}, want); len(p) != 4 || !bytes.Equal(p, q) {
			t.Errorf("Patch(nil, %08X) is %v, but of no bytes %v", want, p, q)
		}
	}
}
