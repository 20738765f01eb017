package sheet_test

import (
	"slices"
	"testing"

	"troth/api"
	"troth/sheet"
)

// families are bodies that are laid together: small ones and great ones, that end with sheets, one byte before, and one behind.
func families() [][]string {
	return [][]string{
		nil,
		{""},
		textsOf(1, 5, 0, 17),
		textsOf(2, 235), textsOf(2, 236), textsOf(2, 237),
		textsOf(3, 235, 3, 300), textsOf(3, 236, 3, 300), textsOf(3, 237, 3, 300),
		textsOf(4, 477, 0, 1), textsOf(4, 478, 0, 1), textsOf(4, 479, 0, 1),
		textsOf(5, 4096),
		textsOf(6, 10, 4096, 10, 4095, 0),
		textsOf(7, times(100, 0)...),
		textsOf(8, times(60, 30)...),
		textsOf(9, times(8, 236)...),
		textsOf(10, 300, 300, 300, 300, 300),
		textsOf(11, 127, 128, 129, 1, 700, 2, 1500, 3, 240, 241, 242, 243),
	}
}

// lay is the sheets of bodies that may be laid.
func lay(t *testing.T, inc, pos int, bodies []string) []api.Sheet {
	t.Helper()
	l, e := sheet.Lay(inc, pos, bytesOf(bodies...))
	if e != api.OK {
		t.Fatalf("Lay of %d bodies fails with %d", len(bodies), e)
	}
	return l
}

// P8.2: in each number of first sheets exactly those bodies are found that end there, each with the sheet in which it begins; in all of them, all bodies.
func TestFirstSheets(t *testing.T) {
	for _, bodies := range families() {
		l := lay(t, 1, 7, bodies)
		for n := range len(l) + 1 {
			wantFound(t, "first sheets", l[:n], ended(n, 0, bodies...)...)
		}
		if got := sheet.Find(l); len(got) != len(bodies) {
			t.Errorf("in all sheets of %d bodies, %d are found", len(bodies), len(got))
		}
		wantFound(t, "all sheets", l, allOf(0, bodies...)...)
	}
}

// P8.2: which bodies end in first sheets, told one by one.
func TestFirstSheetsTold(t *testing.T) {
	bodies := textsOf(3, 236, 3, 300, 1)
	l := lay(t, 1, 7, bodies)
	if len(l) != 3 {
		t.Fatalf("the bodies have %d sheets; want 3", len(l))
	}
	wantFound(t, "no sheet", l[:0])
	wantFound(t, "one sheet", l[:1], body(bodies[0], 0))
	wantFound(t, "two sheets", l[:2], body(bodies[0], 0), body(bodies[1], 1))
	wantFound(t, "three sheets", l, body(bodies[0], 0), body(bodies[1], 1), body(bodies[2], 1), body(bodies[3], 2))
}

// P8.2: bodies of every size, behind one and ahead of another.
func TestFindBodiesOfEverySize(t *testing.T) {
	for n := range 1000 {
		for _, bodies := range [][]string{textsOf(n, n), textsOf(n, n%245, n, 3)} {
			l := lay(t, 1, n, bodies)
			wantFound(t, "all sheets", l, allOf(0, bodies...)...)
			for k := range len(l) {
				wantFound(t, "first sheets", l[:k], ended(k, 0, bodies...)...)
			}
		}
	}
}

// P8.2 and P8.4: bodies are found in what the payloads of their sheets are decoded to, up to the last position.
func TestFindInDecodedPayloads(t *testing.T) {
	for _, bodies := range families() {
		var l []api.Sheet
		for _, s := range lay(t, most, most-100, bodies) {
			b, e := sheet.Encode(s)
			if e != api.OK {
				t.Fatalf("Encode of a sheet that was laid fails with %d", e)
			}
			again, e := sheet.Decode(append(b, make([]byte, api.Payload-len(b))...))
			if e != api.OK || again != s {
				t.Fatalf("Decode of the payload of %s is %s, %d", told(s), told(again), e)
			}
			l = append(l, again)
		}
		wantFound(t, "decoded payloads", l, allOf(0, bodies...)...)
	}
}

// P8.3: behind each number of first sheets of some bodies, all of the other bodies are found that were laid later, and of the former those that end.
func TestFirstSheetsAndOthers(t *testing.T) {
	for _, former := range families() {
		l := lay(t, 1, 7, former)
		for n := range len(l) + 1 {
			for _, latter := range families() {
				whole := slices.Concat(l[:n], lay(t, 2, 7+n, latter))
				wantFound(t, "first sheets, and others", whole, slices.Concat(ended(n, 0, former...), allOf(n, latter...))...)
			}
		}
	}
}

// P8.3: the same, where only the first sheets of the latter are there, and a third list of bodies follows.
func TestFirstSheetsThrice(t *testing.T) {
	some := [][]string{{""}, textsOf(3, 235, 3, 300), textsOf(4, 479, 0, 1), textsOf(10, 300, 300, 300), textsOf(11, 1, 700, 2)}
	for _, one := range some {
		first := lay(t, 1, 0, one)
		for n := range len(first) + 1 {
			for _, two := range some {
				second := lay(t, 2, n, two)
				for m := range len(second) + 1 {
					for _, three := range some {
						whole := slices.Concat(first[:n], second[:m], lay(t, 2, n+m, three))
						want := slices.Concat(ended(n, 0, one...), ended(m, n, two...), allOf(n+m, three...))
						wantFound(t, "first sheets twice, and others", whole, want...)
					}
				}
			}
		}
	}
}

// P8.2 and P8.3: bodies without a pattern, laid again and again behind first sheets of what was laid before.
func TestManyLayings(t *testing.T) {
	var d draw
	for range 500 {
		var l []api.Sheet
		var want []api.Found
		for inc := range 1 + d.below(6) {
			bodies := drawBodies(&d)
			some := lay(t, inc, len(l), bodies)
			n := pick(&d, []int{len(some), d.below(len(some) + 1)})
			want = append(want, ended(n, len(l), bodies...)...)
			if n == len(some) {
				want = append(want[:len(want)-len(ended(n, 0, bodies...))], allOf(len(l), bodies...)...)
			}
			l = append(l, some[:n]...)
		}
		wantFound(t, "many layings", l, want...)
	}
}
