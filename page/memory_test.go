package page_test

import (
	"bytes"
	"slices"
	"testing"

	"troth/api"
	pages "troth/page"
)

// spoil overwrites a list, and what its memory has beyond it.
func spoil[T any](l []T, with T) {
	l = l[:cap(l)]
	for i := range l {
		l[i] = with
	}
}

// spoilt is a cell that no page of these tests has.
var spoilt = api.Cell{Key: "spoilt", Val: has("spoilt")}

// roomy is a page that has room behind its cells, and what is there.
func roomy(p api.Page) (api.Page, []api.Cell) {
	all := append(slices.Clone(p.Cells), spoilt, spoilt, spoilt, spoilt, spoilt)
	return api.Page{Lsn: p.Lsn, Cells: all[:len(p.Cells)]}, all[len(p.Cells):]
}

// untouched tells whether nothing was written into the room behind cells.
func untouched(room []api.Cell) bool {
	return slices.Equal(room, []api.Cell{spoilt, spoilt, spoilt, spoilt, spoilt})
}

// P10.4: no call changes its arguments, or looks at what is beyond their lengths.
func TestArguments(t *testing.T) {
	for _, kept := range append(goodPages(), badPages()...) {
		p, room := roomy(kept)
		pages.Encode(p)
		for _, key := range append(keys(), "c", "spoilt") {
			if v := pages.Get(p, key); v != got(kept, key) {
				t.Errorf("Get looks behind the cells")
			}
			pages.Room(p, key)
			wantSet(t, "room behind the cells", p, 12, key, has("x"))
		}
		if !same(p, kept) || !untouched(room) {
			t.Fatalf("a call changes %s to %s, or what is behind it", told(kept), told(p))
		}
		payload := append(payloadOf(kept), 7, 7, 7)
		before := bytes.Clone(payload)
		pages.Decode(payload[:len(payload)-3])
		if !bytes.Equal(payload, before) {
			t.Fatalf("Decode changes its argument, or what is behind it")
		}
	}
	whole := payloadOf(page(9, "a", "b"))
	for n := range whole {
		wantNoPage(t, "the payload goes on behind the argument's end", whole[:n], api.ErrShort)
	}
}

// P10.4: a payload stays as it was, whatever becomes of the page, and of another payload of it.
func TestPayloadIsNewMemory(t *testing.T) {
	for _, kept := range goodPages() {
		p := plain(kept)
		first, _ := pages.Encode(p)
		second, _ := pages.Encode(p)
		spoil(first, 99)
		if !same(p, kept) {
			t.Fatalf("a change of a payload changes the page")
		}
		spoil(p.Cells, spoilt)
		if !bytes.Equal(second, payloadOf(kept)) {
			t.Fatalf("a change of a payload or of the page changes another payload")
		}
		wantPayload(t, "behind a change of its payload", kept, payloadOf(kept))
	}
}

// P10.4: a page stays as it was decoded, whatever becomes of the bytes, and of another page decoded from them.
func TestDecodedIsNewMemory(t *testing.T) {
	for _, want := range goodPages() {
		b := payloadOf(want)
		first, _ := pages.Decode(b)
		second, _ := pages.Decode(b)
		spoil(first.Cells, spoilt)
		if !bytes.Equal(b, payloadOf(want)) {
			t.Fatalf("a change of a page changes its payload")
		}
		spoil(b, 99)
		if !same(second, want) {
			t.Fatalf("a change of the bytes, or of another page, changes the page to %s", told(second))
		}
	}
}

// P10.4: the page of a Set stays as it was, whatever becomes of the page that was passed, and of that of another Set.
func TestSetIsNewMemory(t *testing.T) {
	for _, kept := range goodPages() {
		for _, key := range append(keys(), "b", "c", "d", "e", "f", "g", "h", "i") {
			want, code := set(kept, 12, key, has("x"))
			if code != api.OK {
				continue
			}
			p, room := roomy(kept)
			first, _ := pages.Set(p, 12, key, has("x"))
			second, _ := pages.Set(p, 12, key, has("x"))
			spoil(first.Cells, spoilt)
			if !same(p, kept) || !untouched(room) {
				t.Fatalf("a change of the result changes the argument %s to %s", told(kept), told(p))
			}
			spoil(p.Cells, api.Cell{})
			if !same(second, want) {
				t.Fatalf("a change of the argument, or of another result, changes the result to %s", told(second))
			}
		}
	}
}

// P0.4: a page without cells is the same one, with a nil list and with an empty one.
func TestNoCells(t *testing.T) {
	for _, cells := range [][]api.Cell{nil, {}, make([]api.Cell, 0, 9)} {
		p := api.Page{Lsn: 3, Cells: cells}
		wantPayload(t, "no cells", p, []byte{3, 0})
		wantSet(t, "no cells", p, 4, "a", has("x"))
		if pages.Get(p, "a") != none || !pages.Room(p, "a") {
			t.Errorf("a page without cells has a value, or no room")
		}
	}
}

// P0.5: what a call returns does not hang on the calls ahead of it.
func TestCallsAlike(t *testing.T) {
	p, full := page(9, "b", "d"), page(9, "b", "d", "f", "h")
	for range 3 {
		wantSet(t, "a page", p, 12, "c", has("x"))
		wantError(t, "a full page", full, 12, "c", has("x"), api.ErrPage)
		wantPayload(t, "a page", p, payloadOf(p))
		wantNoPayload(t, "not valid", page(-1, "a"))
		wantNoPage(t, "noughts", []byte{0}, api.ErrShort)
		wantPage(t, "noughts", []byte{0, 0}, api.Page{})
	}
}
