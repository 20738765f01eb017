package rec_test

import (
	"bytes"
	"slices"
	"strings"
	"testing"

	"troth/api"
	"troth/rec"
)

// wantValid fails if a record is not valid, or its encoding is another one.
func wantValid(t *testing.T, what string, r api.Rec, want []byte) {
	t.Helper()
	if !rec.May(r) {
		t.Errorf("%s: May of %+v is false", what, r)
	}
	if b, e := rec.Encode(r); e != api.OK || !bytes.Equal(b, want) {
		t.Errorf("%s: Encode of %+v is %v, %d; want %v, OK", what, r, b, e, want)
	}
	if n := rec.Size(r); n != len(want) {
		t.Errorf("%s: Size of %+v is %d; want %d", what, r, n, len(want))
	}
}

// wantRefused fails if a record is encoded, if its Size is not 0, or if May is not as it should be.
func wantRefused(t *testing.T, what string, r api.Rec, may bool, want api.Errno) {
	t.Helper()
	if rec.May(r) != may {
		t.Errorf("%s: May of %+v is %t; want %t", what, r, !may, may)
	}
	if b, e := rec.Encode(r); e != want || len(b) != 0 {
		t.Errorf("%s: Encode of %+v is %v, %d; want nothing, %d", what, r, b, e, want)
	}
	if n := rec.Size(r); n != 0 {
		t.Errorf("%s: Size of %+v is %d; want 0", what, r, n)
	}
}

func wantInvalid(t *testing.T, what string, r api.Rec) {
	t.Helper()
	wantRefused(t, what, r, false, api.ErrArg)
}

// wantDecoded fails if decoding bytes does not yield a record.
func wantDecoded(t *testing.T, what string, b []byte, want api.Rec) {
	t.Helper()
	if r, e := rec.Decode(b); e != api.OK || !same(r, want) {
		t.Errorf("%s: Decode of %v is %+v, %d; want %+v, OK", what, b, r, e, want)
	}
}

// wantNotDecoded fails if decoding bytes does not fail with an error, and the zero record beside it.
func wantNotDecoded(t *testing.T, what string, b []byte, want api.Errno) {
	t.Helper()
	if r, e := rec.Decode(b); e != want || !same(r, api.Rec{}) {
		t.Errorf("%s: Decode of %v is %+v, %d; want the zero record, %d", what, b, r, e, want)
	}
}

// written are records, and their encodings written out.
func written() []struct {
	r api.Rec
	b []byte
} {
	has := func(s string) api.Value { return api.Value{Has: true, Data: s} }
	return []struct {
		r api.Rec
		b []byte
	}{
		{api.Rec{Kind: api.RecEnd, Tx: 5, Prev: 3}, []byte{6, 5, 3}},
		{api.Rec{Kind: api.RecUpdate, Tx: 5, Prev: 3, Key: "k"}, []byte{1, 5, 3, 1, 'k', 0, 0}},
		{api.Rec{Kind: api.RecUpdate, Tx: 300, Prev: 0, Key: "ab", Old: has("old"), New: has("")}, []byte{1, 0x82, 0x2C, 0, 2, 'a', 'b', 1, 3, 'o', 'l', 'd', 1, 0}},
		{api.Rec{Kind: api.RecUpdate, Tx: 1, Prev: 128, Key: "\x00", New: has("\xff\x00")}, []byte{1, 1, 0x81, 0, 1, 0, 0, 1, 2, 255, 0}},
		{api.Rec{Kind: api.RecClr, Tx: 5, Prev: 4, Next: 3, Key: "k", New: has("v")}, []byte{2, 5, 4, 3, 1, 'k', 1, 1, 'v'}},
		{api.Rec{Kind: api.RecClr, Tx: 5, Prev: 4, Next: 0, Key: "k"}, []byte{2, 5, 4, 0, 1, 'k', 0}},
		{api.Rec{Kind: api.RecPrepare, Tx: 5, Prev: 4, Coord: 7, Members: []int{0, 2}, Locks: []api.Lock{{Key: "a", X: true}, {Key: "bc"}}}, []byte{3, 5, 4, 7, 2, 0, 2, 2, 1, 'a', 1, 2, 'b', 'c', 0}},
		{api.Rec{Kind: api.RecPrepare, Tx: 5}, []byte{3, 5, 0, 0, 0, 0}},
		{api.Rec{Kind: api.RecCommit, Tx: 1 << 40, Prev: 1<<40 - 1}, []byte{4, 0xA0, 0x80, 0x80, 0x80, 0x80, 0, 0x9F, 0xFF, 0xFF, 0xFF, 0xFF, 0x7F}},
		{api.Rec{Kind: api.RecAbort, Tx: 127, Prev: 0}, []byte{5, 127, 0}},
		{api.Rec{Kind: api.RecBegin}, []byte{7}},
		{api.Rec{Kind: api.RecCheck}, []byte{8, 0, 0, 0, 0}},
		{api.Rec{
			Kind:  api.RecCheck,
			Rows:  []api.Row{{Tx: 1, State: api.Active}, {Tx: 9, State: api.Aborting, First: 300, Last: 3, Undo: 2, Coord: 1, Members: []int{7}, Locks: []api.Lock{{Key: "k", X: true}}}},
			Dirty: []api.Dirty{{Page: 0, Rec: 5}, {Page: 63, Rec: 4}},
			Deeds: []api.Deed{{Tx: 2, Members: []int{0, 1}}, {Tx: 3}},
			Past:  []int{6, 300},
		}, []byte{8, 2, 1, 1, 0, 0, 0, 0, 0, 0, 9, 4, 0x82, 0x2C, 3, 2, 1, 1, 7, 1, 1, 'k', 1, 2, 0, 5, 63, 4, 2, 2, 2, 0, 1, 3, 0, 2, 6, 0x82, 0x2C}},
		{api.Rec{Kind: api.RecDecide, Tx: 5, Members: []int{1, 6}}, []byte{9, 5, 2, 1, 6}},
		{api.Rec{Kind: api.RecDecide, Tx: 5}, []byte{9, 5, 0}},
		{api.Rec{Kind: api.RecForget, Tx: 5}, []byte{10, 5}},
	}
}

// P7.1: the chapter's example, and the bytes of records of each kind.
func TestWrittenOut(t *testing.T) {
	seen := map[int]bool{}
	for _, c := range written() {
		wantValid(t, "written out", c.r, c.b)
		wantDecoded(t, "written out", c.b, c.r)
		seen[c.r.Kind] = true
	}
	for _, kind := range kinds() {
		if !seen[kind] {
			t.Errorf("no record of kind %d", kind)
		}
	}
}

// P7.1 and P7.2: whatever a field that a kind has may be, the record is valid, and it is decoded from its encoding.
func TestGoodFields(t *testing.T) {
	for _, kind := range kinds() {
		for _, f := range fields() {
			if !hasField(kind, f) {
				continue
			}
			for _, c := range f.good {
				r := changed(recordOfKind(kind), c)
				wantValid(t, c.what, r, bytesOf(r))
				wantDecoded(t, c.what, bytesOf(r), r)
			}
		}
	}
}

// P7.1: if a field that a kind has is not as it should be, the record is not valid, nor is it decoded from the bytes that it would have.
func TestBadFields(t *testing.T) {
	for _, kind := range kinds() {
		for _, f := range fields() {
			if !hasField(kind, f) {
				continue
			}
			for _, c := range f.bad {
				r := changed(recordOfKind(kind), c)
				wantInvalid(t, c.what, r)
				wantAsModel(t, bytesOf(r))
			}
		}
	}
}

// P7.1 and P0.4: a field that a kind does not have is zero, or the record is not valid; an empty list is zero.
func TestOtherFields(t *testing.T) {
	for _, kind := range kinds() {
		for _, f := range fields() {
			if hasField(kind, f) {
				continue
			}
			r := recordOfKind(kind)
			for _, c := range f.zero {
				wantValid(t, c.what, changed(r, c), bytesOf(r))
			}
			for _, c := range slices.Concat(f.good, f.bad) {
				other := changed(r, c)
				if same(other, r) {
					continue
				}
				wantInvalid(t, c.what, other)
			}
		}
	}
}

// P7.1: the least record of each kind, which is not valid yet without the Tx and the Key that the kind has.
func TestLeastRecords(t *testing.T) {
	for _, kind := range kinds() {
		r := api.Rec{Kind: kind}
		if hasField(kind, field{name: "Tx"}) {
			wantInvalid(t, "Tx of nothing", r)
			r.Tx = 1
		}
		if hasField(kind, field{name: "Key"}) {
			wantInvalid(t, "Key of nothing", r)
			r.Key = "k"
		}
		wantValid(t, "the least record", r, bytesOf(r))
		wantDecoded(t, "the least record", bytesOf(r), r)
	}
}

// P7.1: what is no kind makes no record valid.
func TestNoKind(t *testing.T) {
	for _, kind := range noKinds() {
		wantInvalid(t, "no kind", api.Rec{Kind: kind})
		for _, other := range kinds() {
			r := recordOfKind(other)
			r.Kind = kind
			wantInvalid(t, "no kind", r)
		}
	}
	wantInvalid(t, "the zero record", api.Rec{})
}

// P7.1: a record under another kind has the bytes of that kind, if it is valid: if it has nothing that the kind does not have.
func TestOtherKind(t *testing.T) {
	for _, kind := range kinds() {
		for _, other := range kinds() {
			r := recordOfKind(kind)
			r.Kind = other
			if isValid(r) {
				wantValid(t, "another kind", r, bytesOf(r))
			} else {
				wantInvalid(t, "another kind", r)
			}
		}
	}
	for _, kind := range []int{api.RecCommit, api.RecAbort, api.RecEnd} {
		wantValid(t, "a kind with the same fields", api.Rec{Kind: kind, Tx: 5, Prev: 3}, []byte{byte(kind), 5, 3})
	}
}

// P7.1: a value that is not there has no data, in Old and in New, beside any other value.
func TestDataWithoutHas(t *testing.T) {
	for _, v := range values() {
		for _, w := range append(noValues(), values()...) {
			for _, r := range []api.Rec{{Kind: api.RecUpdate, Tx: 1, Key: "k", Old: v, New: w}, {Kind: api.RecUpdate, Tx: 1, Key: "k", Old: w, New: v}, {Kind: api.RecClr, Tx: 1, Key: "k", New: w}} {
				if isValue(w) {
					wantValid(t, "two values", r, bytesOf(r))
				} else {
					wantInvalid(t, "two values", r)
				}
			}
		}
	}
}

// P7.1 and P7.2: records whose encodings are just as long as they may be, and longer.
func TestLongRecords(t *testing.T) {
	for long := 4005; long < 4130; long++ {
		r := checkpointOf(long)
		b := bytesOf(r)
		if len(b) != long {
			t.Fatalf("a checkpoint has %d bytes instead of %d", len(b), long)
		}
		if long <= 4096 {
			wantValid(t, "not too long", r, b)
			wantDecoded(t, "not too long", b, r)
		} else {
			wantRefused(t, "too long", r, true, api.ErrLong)
			wantNotDecoded(t, "too long", b, api.ErrLong)
		}
	}
}

// P7.1: the greatest record is valid, but too long; one that is not valid is ErrArg, however long.
func TestGreatestRecord(t *testing.T) {
	r := api.Rec{Kind: api.RecCheck, Past: upFrom(most-255, 256)}
	for i := range 64 {
		r.Rows = append(r.Rows, api.Row{Tx: most - 63 + i, State: api.Aborting, First: most, Last: most, Undo: most, Coord: 7, Members: upFrom(0, 8), Locks: lockList(64, 16)})
		r.Dirty = append(r.Dirty, api.Dirty{Page: i, Rec: most})
		r.Deeds = append(r.Deeds, api.Deed{Tx: most - 63 + i, Members: upFrom(0, 8)})
	}
	wantRefused(t, "the greatest", r, true, api.ErrLong)
	wantNotDecoded(t, "the greatest", bytesOf(r), api.ErrLong)

	r.Past[255] = most + 1
	wantInvalid(t, "not valid at its end", r)
	r.Past[255] = most
	r.Rows[63].Locks[63].Key = ""
	wantInvalid(t, "not valid in its middle", r)
	r.Rows[63].Locks[63].Key = keyOf(63, 16)
	r.Next = 1
	wantInvalid(t, "not valid beside its fields", r)
	r.Next = 0
	wantRefused(t, "valid again", r, true, api.ErrLong)
}

// P0.1 and P0.2: lists and texts of any length are looked at no longer than they need be.
func TestHugeArguments(t *testing.T) {
	text := strings.Repeat("x", 1<<24)
	wantInvalid(t, "a huge key", api.Rec{Kind: api.RecUpdate, Tx: 1, Key: text})
	wantInvalid(t, "a huge value", api.Rec{Kind: api.RecClr, Tx: 1, Key: "k", New: api.Value{Has: true, Data: text}})
	wantInvalid(t, "huge data of no value", api.Rec{Kind: api.RecClr, Tx: 1, Key: "k", New: api.Value{Data: text}})
	locks := makeList(1000, func(int) api.Lock { return api.Lock{Key: text} })
	rows := makeList(1000, func(int) api.Row { return api.Row{Tx: -1, Locks: locks} })
	if rec.May(api.Rec{Kind: api.RecCheck, Rows: rows}) || rec.Size(api.Rec{Kind: api.RecCheck, Rows: rows[:64]}) != 0 {
		t.Error("rows with huge locks are valid")
	}
	if rec.May(api.Rec{Kind: api.RecCheck, Past: upFrom(1, 1<<20)}) {
		t.Error("a huge list is valid")
	}
}

// drawRecord is some record, some of whose fields may be anything.
func drawRecord(d *draw, all []field) api.Rec {
	r := recordOfKind(pick(d, append(kinds(), noKinds()...)))
	if d.below(3) > 0 {
		r = recordOfKind(1 + d.below(lastKind))
	}
	for range d.below(4) {
		f := pick(d, all)
		switch d.below(4) {
		case 0:
			r = changed(r, pick(d, f.bad))
		case 1:
			r = changed(r, pick(d, f.zero))
		default:
			r = changed(r, pick(d, f.good))
		}
	}
	return r
}

// P7.1, P0.1 and P0.5: records with several fields changed are answered as the chapter has it, and the same way again.
func TestAnyRecords(t *testing.T) {
	var d draw
	all, valid := fields(), 0
	for range 4000 {
		r := drawRecord(&d, all)
		b := bytesOf(r)
		for range 2 {
			if !isValid(r) {
				wantInvalid(t, "any record", r)
			} else if len(b) > 4096 {
				wantRefused(t, "any record", r, true, api.ErrLong)
			} else {
				wantValid(t, "any record", r, b)
				valid++
			}
		}
		if t.Failed() {
			return
		}
	}
	if valid < 500 {
		t.Errorf("only %d records were valid", valid)
	}
}
