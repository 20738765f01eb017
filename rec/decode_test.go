package rec_test

import (
	"bytes"
	"math"
	"slices"
	"strings"
	"testing"

	"troth/api"
	"troth/rec"
)

// wantAsModel fails if decoding bytes is anything but what the chapter has, or the encoding of the record is other bytes.
func wantAsModel(t *testing.T, b []byte) {
	t.Helper()
	want, e := recordOf(b)
	if e != api.OK {
		wantNotDecoded(t, "as the chapter has it", b, e)
		return
	}
	wantDecoded(t, "as the chapter has it", b, want)
	r, _ := rec.Decode(b)
	if again, e := rec.Encode(r); e != api.OK || !bytes.Equal(again, b) {
		t.Errorf("Encode of what %v is decoded to is %v, %d", b, again, e)
	}
}

// times is a byte, so many times.
func times(n int, c byte) []byte { return bytes.Repeat([]byte{c}, n) }

// P7.1: errors of decoding Kind, which come before all but those of the length; what is no kind is ErrForm, whatever follows.
func TestDecodeKind(t *testing.T) {
	wantNotDecoded(t, "nil", nil, api.ErrShort)
	wantNotDecoded(t, "no bytes", []byte{}, api.ErrShort)
	for _, c := range []struct {
		kind []byte
		want api.Errno
	}{
		{[]byte{0x81}, api.ErrShort},
		{[]byte{0x80}, api.ErrForm},
		{[]byte{0x80, 6}, api.ErrForm},
		{digits(0), api.ErrForm},
		{digits(11), api.ErrForm},
		{digits(12), api.ErrForm},
		{digits(127), api.ErrForm},
		{digits(128), api.ErrForm},
		{digits(128 + 6), api.ErrForm},
		{digits(256 + 6), api.ErrForm},
		{digits(most - 1), api.ErrForm},
		{digits(most), api.ErrForm},
		{digits(most + 1), api.ErrLong},
		{digits(math.MaxInt), api.ErrLong},
		{digits(-1), api.ErrLong},
		{digits(math.MinInt + 6), api.ErrLong},
		{append(times(10, 0x82), 0), api.ErrLong},
	} {
		wantNotDecoded(t, "a kind alone", c.kind, c.want)
		if c.want == api.ErrShort {
			continue
		}
		for _, rest := range [][]byte{{0}, {5, 3}, {5, 3, 0, 0}, {0x80}, {0x81}, {5, 0x80}, digits(most + 1), {33, 'a'}, times(4000, 1)} {
			wantNotDecoded(t, "a kind, and bytes behind it", append(bytes.Clone(c.kind), rest...), c.want)
		}
	}
}

// P7.1: the errors of decoding fields, in their order; those of the bytes come before that of a record that is not valid.
func TestDecodeErrors(t *testing.T) {
	tooGreat := digits(most + 1)
	update := []byte{1, 5, 3}
	check := []byte{8, 0, 0, 0, 0}
	for _, c := range []struct {
		what string
		b    []byte
		want api.Errno
	}{
		{"no Tx", []byte{6}, api.ErrShort},
		{"no Prev", []byte{6, 5}, api.ErrShort},
		{"no Prev, and Tx 0", []byte{6, 0}, api.ErrShort},
		{"Tx 0", []byte{6, 0, 3}, api.ErrForm},
		{"Tx 0, and a byte left", []byte{6, 0, 3, 9}, api.ErrRest},
		{"a byte left", []byte{6, 5, 3, 0}, api.ErrRest},
		{"bytes left", []byte{6, 5, 3, 6, 5, 3}, api.ErrRest},
		{"a byte left behind a kind without fields", []byte{7, 0}, api.ErrRest},
		{"a leading zero in Tx", []byte{6, 0x80, 5, 3}, api.ErrForm},
		{"a leading zero in Prev", []byte{6, 5, 0x80}, api.ErrForm},
		{"Tx too great", slices.Concat([]byte{6}, tooGreat, []byte{3}), api.ErrLong},
		{"Tx too great, and nothing behind it", append([]byte{6}, tooGreat...), api.ErrLong},
		{"Tx too great, and a leading zero behind it", slices.Concat([]byte{6}, tooGreat, []byte{0x80}), api.ErrLong},
		{"Prev too great, and Tx 0", slices.Concat([]byte{6, 0}, tooGreat), api.ErrLong},
		{"Prev too great, and a byte left", slices.Concat([]byte{6, 5}, tooGreat, []byte{0}), api.ErrLong},
		{"Tx of 2^64 - 1", slices.Concat([]byte{10}, digits(-1)), api.ErrLong},
		{"Tx cut off", []byte{10, 0x85}, api.ErrShort},
		{"no Key", update, api.ErrShort},
		{"Key of 0 bytes", append(update, 0, 0, 0), api.ErrForm},
		{"Key of 0 bytes, and nothing behind it", append(update, 0), api.ErrShort},
		{"Key of 0 bytes, and a flag that is none", append(update, 0, 2), api.ErrForm},
		{"Key of 17 bytes", slices.Concat(update, []byte{17}, times(17, 'k'), []byte{0, 0}), api.ErrForm},
		{"Key of 17 bytes, and no New", slices.Concat(update, []byte{17}, times(17, 'k'), []byte{0}), api.ErrShort},
		{"Key of 17 bytes, and a byte left", slices.Concat(update, []byte{17}, times(17, 'k'), []byte{0, 0, 0}), api.ErrRest},
		{"Key of 32 bytes", slices.Concat(update, []byte{32}, times(32, 'k'), []byte{0, 0}), api.ErrForm},
		{"Key of 32 bytes, cut off", slices.Concat(update, []byte{32}, times(31, 'k')), api.ErrShort},
		{"Key of 33 bytes", slices.Concat(update, []byte{33}, times(33, 'k'), []byte{0, 0}), api.ErrLong},
		{"Key of 33 bytes, cut off", append(update, 33), api.ErrLong},
		{"Key of too many bytes", slices.Concat(update, tooGreat), api.ErrLong},
		{"a leading zero in Key's length", append(update, 0x80, 1, 'k', 0, 0), api.ErrForm},
		{"no Old", append(update, 1, 'k'), api.ErrShort},
		{"a flag of 2 in Old", append(update, 1, 'k', 2, 0), api.ErrForm},
		{"a flag of 2 in Old, and nothing behind it", append(update, 1, 'k', 2), api.ErrForm},
		{"a flag of 255 in New", append(update, 1, 'k', 0, 255), api.ErrForm},
		{"no New", append(update, 1, 'k', 0), api.ErrShort},
		{"no Data of New", append(update, 1, 'k', 0, 1), api.ErrShort},
		{"Data of New cut off", append(update, 1, 'k', 0, 1, 2, 'v'), api.ErrShort},
		{"Data of 32 bytes cut off", slices.Concat(update, []byte{1, 'k', 0, 1, 32}, times(31, 'v')), api.ErrShort},
		{"Data of 33 bytes", slices.Concat(update, []byte{1, 'k', 0, 1, 33}, times(33, 'v')), api.ErrLong},
		{"Data of 33 bytes in Old, and Tx 0", slices.Concat([]byte{1, 0, 3, 1, 'k', 1, 33}, times(33, 'v'), []byte{0}), api.ErrLong},
		{"Coord 8", []byte{3, 5, 3, 8, 0, 0}, api.ErrForm},
		{"Coord 8, and nothing behind it", []byte{3, 5, 3, 8}, api.ErrShort},
		{"Coord too great", slices.Concat([]byte{3, 5, 3}, tooGreat, []byte{0, 0}), api.ErrLong},
		{"a flag of 2 in a lock", []byte{3, 5, 3, 0, 0, 1, 1, 'k', 2}, api.ErrForm},
		{"a lock's key of 33 bytes", slices.Concat([]byte{3, 5, 3, 0, 0, 1, 33}, times(33, 'k'), []byte{0}), api.ErrLong},
		{"a lock's key of 17 bytes", slices.Concat([]byte{3, 5, 3, 0, 0, 1, 17}, times(17, 'k'), []byte{0}), api.ErrForm},
		{"locks that don't ascend, and a byte left", []byte{3, 5, 3, 0, 0, 2, 1, 'b', 0, 1, 'a', 0, 0}, api.ErrRest},
		{"locks that don't ascend", []byte{3, 5, 3, 0, 0, 2, 1, 'b', 0, 1, 'a', 0}, api.ErrForm},
		{"one lock too few", []byte{3, 5, 3, 0, 0, 2, 1, 'b', 0}, api.ErrShort},
		{"one lock too many", []byte{3, 5, 3, 0, 0, 1, 1, 'a', 0, 1, 'b', 0}, api.ErrRest},
		{"members that don't ascend", []byte{9, 5, 2, 3, 3}, api.ErrForm},
		{"member 8", []byte{9, 5, 1, 8}, api.ErrForm},
		{"a member too great", slices.Concat([]byte{9, 5, 1}, tooGreat), api.ErrLong},
		{"9 members", []byte{9, 5, 9, 0, 1, 2, 3, 4, 5, 6, 7, 8}, api.ErrForm},
		{"9 members, cut off", []byte{9, 5, 9, 0, 1, 2, 3, 4, 5, 6, 7}, api.ErrShort},
		{"256 members", slices.Concat([]byte{9, 5, 0x82, 0}, times(256, 1)), api.ErrForm},
		{"256 members, cut off", slices.Concat([]byte{9, 5, 0x82, 0}, times(255, 1)), api.ErrShort},
		{"257 members", slices.Concat([]byte{9, 5, 0x82, 1}, times(257, 1)), api.ErrLong},
		{"257 members, cut off", []byte{9, 5, 0x82, 1}, api.ErrLong},
		{"257 members of Tx 0", slices.Concat([]byte{9, 0, 0x82, 1}, times(257, 1)), api.ErrLong},
		{"as many members as a number may be", slices.Concat([]byte{9, 5}, digits(most)), api.ErrLong},
		{"a leading zero in the number of members", []byte{9, 5, 0x80, 0}, api.ErrForm},
		{"no lists of a checkpoint", []byte{8}, api.ErrShort},
		{"no Past", check[:4], api.ErrShort},
		{"a list too many", append(check, 0), api.ErrRest},
		{"257 rows", []byte{8, 0x82, 1}, api.ErrLong},
		{"256 rows, cut off", []byte{8, 0x82, 0, 1, 1}, api.ErrShort},
		{"65 rows, the first of them cut off", []byte{8, 65, 1, 1, 0}, api.ErrShort},
		{"257 dirty pages", []byte{8, 0, 0x82, 1}, api.ErrLong},
		{"257 deeds", []byte{8, 0, 0, 0x82, 1}, api.ErrLong},
		{"257 of Past", slices.Concat([]byte{8, 0, 0, 0, 0x82, 1}, digits(upFrom(1, 257)...)), api.ErrLong},
		{"256 of Past, all the same", slices.Concat([]byte{8, 0, 0, 0, 0x82, 0}, times(256, 1)), api.ErrForm},
		{"Past 0", []byte{8, 0, 0, 0, 1, 0}, api.ErrForm},
		{"Past too great", slices.Concat([]byte{8, 0, 0, 0, 1}, tooGreat), api.ErrLong},
		{"State 0", []byte{8, 1, 1, 0, 0, 0, 0, 0, 0, 0, 0, 0, 0}, api.ErrForm},
		{"State 5", []byte{8, 1, 1, 5, 0, 0, 0, 0, 0, 0, 0, 0, 0}, api.ErrForm},
		{"State 5, and 257 members", []byte{8, 1, 1, 5, 0, 0, 0, 0, 0x82, 1, 0, 0, 0, 0}, api.ErrLong},
		{"page 64", []byte{8, 0, 1, 64, 1, 0, 0}, api.ErrForm},
		{"a dirty page's Rec 0", []byte{8, 0, 1, 63, 0, 0, 0}, api.ErrForm},
		{"a dirty page's Rec 0, and a flag where there is none", []byte{8, 0, 1, 63, 0, 0, 0x80}, api.ErrForm},
		{"a deed's Tx 0, and 257 members", []byte{8, 0, 0, 1, 0, 0x82, 1}, api.ErrLong},
	} {
		wantNotDecoded(t, c.what, c.b, c.want)
		wantAsModel(t, c.b)
	}
}

// P7.1: bytes that are more than there may be are ErrLong, whatever they are; as many as there may be are looked at.
func TestDecodeTooLong(t *testing.T) {
	for _, c := range []struct {
		begin []byte
		want  api.Errno
	}{{nil, api.ErrForm}, {[]byte{0}, api.ErrForm}, {[]byte{0x80}, api.ErrForm}, {[]byte{6, 5, 3}, api.ErrRest}, {[]byte{7}, api.ErrRest}, {digits(most + 1), api.ErrLong}} {
		b := append(bytes.Clone(c.begin), make([]byte, 6000)...)
		wantNotDecoded(t, "4096 bytes", b[:4096], c.want)
		wantNotDecoded(t, "4097 bytes", b[:4097], api.ErrLong)
		wantNotDecoded(t, "6000 bytes", b[:6000], api.ErrLong)
	}
	b := bytesOf(checkpointOf(4096))
	wantNotDecoded(t, "a byte behind 4096", append(b, 0), api.ErrLong)
	wantNotDecoded(t, "a byte behind 4095", append(bytesOf(checkpointOf(4095)), 0), api.ErrRest)
}

// P7.2: whatever is encoded is decoded to the same, and encoded to the same bytes again.
func TestRoundTrip(t *testing.T) {
	for _, r := range goodRecords() {
		b, e := rec.Encode(r)
		if e != api.OK {
			t.Fatalf("Encode of %+v fails with %d", r, e)
		}
		wantDecoded(t, "round trip", b, r)
		wantAsModel(t, b)
	}
}

// P7.2: different records have different encodings.
func TestDifferentRecords(t *testing.T) {
	byBytes := map[string]api.Rec{}
	for _, r := range goodRecords() {
		b, _ := rec.Encode(r)
		if other, is := byBytes[string(b)]; is && !same(other, r) {
			t.Fatalf("%+v and %+v have the same encoding", other, r)
		}
		byBytes[string(b)] = r
	}
	if len(byBytes) < 100 {
		t.Errorf("only %d encodings", len(byBytes))
	}
}

// P7.3: no proper prefix of an encoding is one, but it ends too soon; and no encoding is the beginning of another one.
func TestPrefix(t *testing.T) {
	for _, r := range append(goodRecords(), checkpointOf(4096)) {
		b, e := rec.Encode(r)
		if e != api.OK {
			t.Fatalf("Encode of %+v fails with %d", r, e)
		}
		for i := range b {
			// Of long encodings, each end of an element is met, though not each byte.
			if i < 300 || i%5 == 0 || i > len(b)-50 {
				wantNotDecoded(t, "a proper prefix", b[:i], api.ErrShort)
			}
		}
		for _, rest := range [][]byte{{0}, {1}, {128}, {255, 255}, b} {
			want := api.ErrRest
			if len(b)+len(rest) > 4096 {
				want = api.ErrLong
			}
			wantNotDecoded(t, "bytes behind an encoding", slices.Concat(b, rest), want)
		}
		if t.Failed() {
			return
		}
	}
}

// P7.1 and P7.2: encodings with any byte replaced by any other one.
func TestReplacedByte(t *testing.T) {
	var l [][]byte
	for _, c := range written() {
		l = append(l, c.b)
	}
	for _, kind := range kinds() {
		l = append(l, bytesOf(recordOfKind(kind)))
	}
	decoded := 0
	for _, b := range l {
		for i := range b {
			for c := range 256 {
				other := bytes.Clone(b)
				other[i] = byte(c)
				wantAsModel(t, other)
				if _, e := rec.Decode(other); e == api.OK {
					decoded++
				}
			}
			if t.Failed() {
				return
			}
		}
	}
	if decoded < 1000 {
		t.Errorf("only %d were decoded", decoded)
	}
}

// P7.1 and P7.2: all byte strings of up to two bytes, and those of three of which a byte is one of a few.
func TestShortBytes(t *testing.T) {
	for a := range 256 {
		wantAsModel(t, []byte{byte(a)})
		for b := range 256 {
			wantAsModel(t, []byte{byte(a), byte(b)})
			for _, c := range []byte{0, 1, 5, 127, 128, 129, 255} {
				wantAsModel(t, []byte{byte(a), byte(b), c})
			}
		}
		if t.Failed() {
			return
		}
	}
}

// spoil changes bytes here and there.
func spoil(d *draw, b []byte) []byte {
	for range 1 + d.below(3) {
		at := d.below(len(b) + 1)
		c := pick(d, []byte{0, 1, 2, 3, 7, 8, 17, 33, 64, 65, 127, 128, 129, 130, 255})
		switch d.below(4) {
		case 0:
			b = slices.Insert(b, at, c)
		case 1:
			b = slices.Delete(b, min(at, len(b)), min(at+1+d.below(3), len(b)))
		case 2:
			b = append(b[:at:at], b[min(at+d.below(9), len(b)):]...)
		default:
			if at < len(b) {
				b[at] = c
			}
		}
	}
	return b
}

// P7.1, P7.2, P0.1 and P0.5: encodings of any records that were changed here and there.
func TestSpoiltBytes(t *testing.T) {
	var d draw
	all := fields()
	for range 60000 {
		b := bytesOf(drawRecord(&d, all))
		if d.below(4) > 0 {
			b = spoil(&d, b)
		}
		wantAsModel(t, b)
		if t.Failed() {
			return
		}
	}
}

// P7.1: a text is decoded as the bytes that it has, whether or not they are characters.
func TestAnyText(t *testing.T) {
	for c := range 256 {
		s := strings.Repeat(string([]byte{byte(c)}), 5)
		r := api.Rec{Kind: api.RecClr, Tx: 1, Key: s, New: api.Value{Has: true, Data: s}}
		wantValid(t, "any text", r, bytesOf(r))
		wantDecoded(t, "any text", bytesOf(r), r)
	}
}
