package rec_test

import (
	"bytes"
	"slices"
	"strings"
	"testing"

	"troth/api"
	"troth/rec"
)

// spoilList overwrites a list, and what its memory has beyond it.
func spoilList[T any](l []T, with T) {
	l = l[:cap(l)]
	for i := range l {
		l[i] = with
	}
}

// spoilers are functions, one for each list of a record, that overwrite it. Those of inner lists come first.
func spoilers(r api.Rec) []func() {
	var l []func()
	for _, row := range r.Rows {
		l = append(l, func() { spoilList(row.Members, 77) }, func() { spoilList(row.Locks, api.Lock{Key: "spoilt"}) })
	}
	for _, deed := range r.Deeds {
		l = append(l, func() { spoilList(deed.Members, 77) })
	}
	return append(l,
		func() { spoilList(r.Members, 77) }, func() { spoilList(r.Locks, api.Lock{Key: "spoilt"}) }, func() { spoilList(r.Past, 77) },
		func() { spoilList(r.Dirty, api.Dirty{Page: 77}) }, func() { spoilList(r.Rows, api.Row{Tx: 77}) }, func() { spoilList(r.Deeds, api.Deed{Tx: 77}) })
}

// P7.4: what Encode returned is nobody else's.
func TestEncodingIsNewMemory(t *testing.T) {
	for _, r := range append(goodRecords(), checkpointOf(4096)) {
		want, kept := bytesOf(r), plain(r)
		first, _ := rec.Encode(r)
		second, _ := rec.Encode(r)
		spoilList(first, 99)
		if !bytes.Equal(second, want) || !same(r, kept) {
			t.Fatalf("a change of what Encode returned changes another encoding, or the record %+v", r)
		}
		for _, spoil := range spoilers(r) {
			spoil()
		}
		if !bytes.Equal(second, want) {
			t.Fatalf("a change of the record changes its encoding")
		}
		again, e := rec.Encode(kept)
		if e != api.OK || !bytes.Equal(again, want) {
			t.Fatalf("Encode of %+v is another one afterwards", kept)
		}
	}
}

// P7.4: a record stays as it was decoded, whatever becomes of the bytes, and of another record decoded from them.
func TestRecordIsNewMemory(t *testing.T) {
	for _, r := range goodRecords() {
		b := bytesOf(r)
		first, e := rec.Decode(b)
		second, f := rec.Decode(b)
		if e != api.OK || f != api.OK {
			t.Fatalf("Decode of %v fails with %d, %d", b, e, f)
		}
		for _, spoil := range spoilers(first) {
			spoil()
		}
		spoilList(b, 99)
		if !same(second, r) {
			t.Fatalf("a change of the bytes, or of another record, changes the record %+v to %+v", r, second)
		}
	}
}

// P7.4: the lists of one record share no memory, not even beyond their ends.
func TestListsOfARecordShareNothing(t *testing.T) {
	for _, r := range append(goodRecords(), checkpointOf(4096)) {
		n := len(spoilers(r))
		for i := range n {
			got, e := rec.Decode(bytesOf(r))
			if e != api.OK {
				t.Fatalf("Decode of %v fails with %d", bytesOf(r), e)
			}
			want := plain(got)
			spoilers(got)[i]()
			spoilers(want)[i]()
			if !same(got, want) {
				t.Fatalf("a change of a list of %+v changes another one: %+v", want, got)
			}
		}
	}
}

// roomy is a list with room behind it, and what is there.
func roomy[T any](l []T, behind T) ([]T, func() []T) {
	all := append(slices.Clone(l), behind, behind, behind)
	return all[:len(l)], func() []T { return all[len(l):] }
}

// P0.3: no call changes its arguments, or looks at what is beyond their lengths.
func TestArguments(t *testing.T) {
	for _, r := range append(goodRecords(), checkpointOf(4096), checkpointOf(4097)) {
		kept := plain(r)
		var past, members func() []int
		var locks func() []api.Lock
		r.Past, past = roomy(r.Past, 5)
		r.Members, members = roomy(r.Members, 5)
		r.Locks, locks = roomy(r.Locks, api.Lock{Key: "behind"})
		rec.May(r)
		rec.Size(r)
		got, _ := rec.Encode(r)
		if !same(r, kept) || !slices.Equal(past(), []int{5, 5, 5}) || !slices.Equal(members(), []int{5, 5, 5}) || locks()[0].Key != "behind" {
			t.Fatalf("a call changes its argument %+v", r)
		}
		whole := append(bytesOf(r), 1, 2, 3)
		b := whole[:len(whole)-3]
		if len(b) <= 4096 && !bytes.Equal(got, b) {
			t.Fatalf("Encode of %+v is %v", r, got)
		}
		rec.Decode(b)
		if !bytes.Equal(whole, append(bytesOf(r), 1, 2, 3)) {
			t.Fatalf("Decode changes its argument")
		}
	}
	whole := []byte{6, 5, 3, 9, 9}
	wantDecoded(t, "bytes behind the argument's end", whole[:3], api.Rec{Kind: api.RecEnd, Tx: 5, Prev: 3})
	wantNotDecoded(t, "bytes behind the argument's end", whole[:2], api.ErrShort)
}

// P0.3: a record that is refused is not changed either, whatever it has.
func TestRefusedArguments(t *testing.T) {
	var d draw
	all := fields()
	for range 2000 {
		r := drawRecord(&d, all)
		kept := plain(r)
		rec.May(r)
		rec.Encode(r)
		rec.Size(r)
		if !same(r, kept) {
			t.Fatalf("a call changes its argument %+v to %+v", kept, r)
		}
	}
}

// P0.3: texts of a record are not parts of the bytes that it was decoded from.
func TestTextsAreNewMemory(t *testing.T) {
	r := api.Rec{Kind: api.RecUpdate, Tx: 1, Key: "a key", Old: api.Value{Has: true, Data: strings.Repeat("old", 10)}, New: api.Value{Has: true, Data: "new"}}
	b := bytesOf(r)
	got, e := rec.Decode(b)
	spoilList(b, 'x')
	if e != api.OK || got.Key != "a key" || got.Old != r.Old || got.New != r.New {
		t.Errorf("a change of the bytes changes a record's texts: %+v, %d", got, e)
	}
}
