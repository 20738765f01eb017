package sheet_test

import (
	"bytes"
	"slices"
	"testing"

	"troth/api"
	"troth/sheet"
)

// spoil overwrites a list, and what its memory has beyond it.
func spoil[T any](l []T, with T) {
	l = l[:cap(l)]
	for i := range l {
		l[i] = with
	}
}

// roomy is a list with room behind it, and what is there.
func roomy[T any](l []T, behind T) (list, room []T) {
	all := append(slices.Clone(l), behind, behind, behind, behind, behind, behind)
	return all[:len(l)], all[len(l):]
}

// P0.3: a payload is nobody else's.
func TestPayloadIsNewMemory(t *testing.T) {
	for _, data := range []string{"", "x", textOf(241, 1), textOf(242, 1)} {
		s := api.Sheet{Inc: 1, Pos: 2, First: 255, Data: data}
		first, _ := sheet.Encode(s)
		second, _ := sheet.Encode(s)
		spoil(first, 99)
		if !bytes.Equal(second, payloadOf(s)) || s.Data != data {
			t.Errorf("a change of a payload changes another one, or the sheet")
		}
		wantPayload(t, "behind a change of its payload", s, payloadOf(s))
	}
}

// P0.3: Decode neither changes its argument, nor keeps it, nor looks behind its end.
func TestDecodeKeepsNothing(t *testing.T) {
	for _, n := range []int{0, 1, 242} {
		want := api.Sheet{Inc: 1, Pos: 2, First: n, Data: textOf(n, 1)}
		payload, room := roomy(payloadOf(want), 7)
		kept := bytes.Clone(payload)
		s, e := sheet.Decode(payload)
		if !bytes.Equal(payload, kept) || !bytes.Equal(room, []byte{7, 7, 7, 7, 7, 7}) {
			t.Errorf("Decode changes its argument, or what is behind it")
		}
		spoil(payload, 99)
		if e != api.OK || s != want {
			t.Errorf("behind a change of the payload, the sheet is %s, %d", told(s), e)
		}
	}
	whole := payloadOf(api.Sheet{Inc: 1, Pos: 2, First: 0, Data: "abc"})
	for n := range whole {
		wantNoSheet(t, "the payload goes on behind the argument's end", whole[:n], api.ErrShort)
	}
}

// P0.3: Lay neither changes its arguments nor what is behind them, nor keeps them.
func TestLayKeepsNothing(t *testing.T) {
	for _, texts := range families() {
		bodies, room := roomy(bytesOf(texts...), []byte("behind"))
		var rooms [][]byte
		for i, text := range bodies {
			var behind []byte
			bodies[i], behind = roomy(text, 7)
			rooms = append(rooms, behind)
		}
		l, e := sheet.Lay(1, 2, bodies)
		for i, text := range texts {
			if string(bodies[i]) != text || !bytes.Equal(rooms[i], []byte{7, 7, 7, 7, 7, 7}) {
				t.Fatalf("Lay changes a body, or what is behind it")
			}
		}
		for _, behind := range room {
			if string(behind) != "behind" {
				t.Fatalf("Lay changes what is behind the bodies")
			}
		}
		for _, body := range bodies {
			spoil(body, 99)
		}
		spoil(bodies, nil)
		if e != api.OK || !slices.Equal(l, laid(1, 2, texts...)) {
			t.Fatalf("a change of the bodies changes the sheets")
		}
	}
}

// P0.3: sheets are nobody else's.
func TestSheetsAreNewMemory(t *testing.T) {
	for _, texts := range families() {
		bodies := bytesOf(texts...)
		first, _ := sheet.Lay(1, 2, bodies)
		second, _ := sheet.Lay(1, 2, bodies)
		spoil(first, api.Sheet{Inc: 9, Pos: 9, First: 9, Data: "spoilt"})
		if !slices.Equal(second, laid(1, 2, texts...)) {
			t.Fatalf("a change of sheets changes others")
		}
		wantLaid(t, "behind a change of sheets", 1, 2, texts, laid(1, 2, texts...))
		for i, text := range texts {
			if string(bodies[i]) != text {
				t.Fatalf("a change of sheets changes a body")
			}
		}
	}
}

// P0.3: bodies that are one and the same memory, or parts of it, are laid like any others.
func TestBodiesThatShareMemory(t *testing.T) {
	whole := []byte(textOf(900, 1))
	l, e := sheet.Lay(1, 2, [][]byte{whole, whole, whole[:100], whole[50:400], nil, whole[899:], whole[:0]})
	text := string(whole)
	bodies := []string{text, text, text[:100], text[50:400], "", text[899:], ""}
	if e != api.OK || !slices.Equal(l, laid(1, 2, bodies...)) {
		t.Errorf("Lay of bodies that share memory is %s, %d", told(l...), e)
	}
	wantFound(t, "bodies that share memory", l, allOf(0, bodies...)...)
}

// P0.3: Find neither changes its argument, nor keeps it, nor looks behind its end.
func TestFindKeepsNothing(t *testing.T) {
	behind := api.Sheet{Inc: 1, Pos: 9, First: 0, Data: a}
	for _, texts := range families() {
		want := laid(1, 2, texts...)
		l, room := roomy(want, behind)
		found := sheet.Find(l)
		if !slices.Equal(l, want) || !slices.Equal(room, slices.Repeat([]api.Sheet{behind}, len(room))) {
			t.Fatalf("Find changes its argument, or what is behind it")
		}
		spoil(l, api.Sheet{First: 9, Data: "spoilt"})
		if !slices.Equal(found, allOf(0, texts...)) {
			t.Fatalf("a change of sheets changes what was found, or what is behind them is found")
		}
	}
}

// P0.3: what was found is nobody else's.
func TestFoundIsNewMemory(t *testing.T) {
	for _, texts := range families() {
		l := laid(1, 2, texts...)
		first, second := sheet.Find(l), sheet.Find(l)
		spoil(first, api.Found{Body: "spoilt", Sheet: 77})
		if !slices.Equal(second, allOf(0, texts...)) || !slices.Equal(l, laid(1, 2, texts...)) {
			t.Fatalf("a change of what was found changes more than that")
		}
		wantFound(t, "behind a change of what was found", l, allOf(0, texts...)...)
	}
}

// P0.4: a nil slice is as good as an empty one.
func TestNil(t *testing.T) {
	for _, bodies := range [][][]byte{nil, {}} {
		if l, e := sheet.Lay(1, 2, bodies); e != api.OK || len(l) != 0 {
			t.Errorf("Lay of no bodies is %v, %d; want no sheets, OK", l, e)
		}
		if l, e := sheet.Lay(1, most+1, bodies); e != api.ErrArg || len(l) != 0 {
			t.Errorf("Lay of no bodies at 2^40 is %v, %d; want no sheets, ErrArg", l, e)
		}
	}
	for _, bodies := range [][][]byte{{nil, []byte("x"), {}}, {{}, []byte("x"), nil}} {
		if l, e := sheet.Lay(1, 2, bodies); e != api.OK || !slices.Equal(l, laid(1, 2, "", "x", "")) {
			t.Errorf("Lay of empty bodies is %v, %d", l, e)
		}
	}
	wantNoSheet(t, "nil", nil, api.ErrShort)
	wantNoSheet(t, "no bytes", []byte{}, api.ErrShort)
	wantFound(t, "nil", nil)
	wantFound(t, "no sheets", []api.Sheet{})
}

// P0.5: what a call returns does not hang on the calls ahead of it.
func TestCallsAlike(t *testing.T) {
	bodies := textsOf(3, 235, 3, 300)
	l := laid(1, 2, bodies...)
	broken := l[:2]
	for range 3 {
		wantFound(t, "first sheets", broken, ended(2, 0, bodies...)...)
		wantFound(t, "only the last sheet", l[2:], foundIn(l[2:])...)
		wantFound(t, "all sheets", l, allOf(0, bodies...)...)
		wantNotLaid(t, "no room", 1, most, bodies, api.ErrFull)
		wantLaid(t, "room", 1, 2, bodies, l)
		wantNoSheet(t, "a First that may not be", append(make([]byte, 10), 9, 0), api.ErrForm)
		wantPayload(t, "a sheet", l[0], payloadOf(l[0]))
	}
}
