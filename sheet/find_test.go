package sheet_test

import (
	"math"
	"slices"
	"strings"
	"testing"

	"troth/api"
	"troth/sheet"
)

// wantFound fails if other bodies are found in sheets.
func wantFound(t *testing.T, what string, l []api.Sheet, want ...api.Found) {
	t.Helper()
	got := sheet.Find(l)
	if len(got) != len(want) {
		t.Errorf("%s: Find is %d bodies; want %d", what, len(got), len(want))
		return
	}
	for i, f := range got {
		if f != want[i] {
			t.Errorf("%s: body %d is %q in sheet %d; want %q in sheet %d", what, i, f.Body, f.Sheet, want[i].Body, want[i].Sheet)
		}
	}
}

// at is a sheet with a First and Data.
func at(first int, data ...string) api.Sheet {
	return api.Sheet{First: first, Data: strings.Join(data, "")}
}

// body is what is found of a body that begins in a sheet.
func body(s string, sheet int) api.Found { return api.Found{Body: s, Sheet: sheet} }

// nowhere are Firsts that are no offsets, whatever Data of at most 242 bytes it is.
var nowhere = []int{255, 243, 254, 256, 1000, 1 << 40, math.MaxInt, -1, -2, -255, math.MinInt}

// Some bodies, sealed.
var a, b, c = sealed("alpha"), sealed("beta"), sealed("gamma")

// P8.1: bodies in one sheet.
func TestFindInOneSheet(t *testing.T) {
	wantFound(t, "no sheets", nil)
	wantFound(t, "no sheets", []api.Sheet{})
	wantFound(t, "a sheet without Data", []api.Sheet{at(0)})
	wantFound(t, "a sheet without Data", []api.Sheet{at(255)})
	wantFound(t, "one body", []api.Sheet{at(0, a)}, body("alpha", 0))
	wantFound(t, "an empty body", []api.Sheet{at(0, sealed(""))}, body("", 0))
	wantFound(t, "an empty body, given as bytes", []api.Sheet{at(0, "\x00\x8d\xef\x02\xd2")}, body("", 0))
	wantFound(t, "a body, given as bytes", []api.Sheet{at(0, "\x01a\x70\x72\x77\x62")}, body("a", 0))
	wantFound(t, "three bodies", []api.Sheet{at(0, a, b, c)}, body("alpha", 0), body("beta", 0), body("gamma", 0))
	wantFound(t, "two bodies alike", []api.Sheet{at(0, a, a)}, body("alpha", 0), body("alpha", 0))
	wantFound(t, "bodies behind the first one's offset", []api.Sheet{at(len(a), a, b, c)}, body("beta", 0), body("gamma", 0))
	wantFound(t, "a head that belongs to nothing", []api.Sheet{at(3, "xyz", b)}, body("beta", 0))
	wantFound(t, "a head that would be a body", []api.Sheet{at(len(a), a)})
	wantFound(t, "an incomplete body at the end", []api.Sheet{at(0, a, b[:3])}, body("alpha", 0))
	wantFound(t, "a body without its last byte", []api.Sheet{at(0, a[:len(a)-1])})
	for _, first := range nowhere {
		wantFound(t, "no body begins", []api.Sheet{at(first, a, b)})
	}
}

// P8.1: a body in two sheets and in three, cut at each byte.
func TestFindCutBodies(t *testing.T) {
	for i := 1; i < len(a); i++ {
		for _, first := range append([]int{len(a) - i}, nowhere...) {
			l := []api.Sheet{at(0, b, a[:i]), at(first, a[i:]), at(0, c)}
			wantFound(t, "a body in two sheets", l, body("beta", 0), body("alpha", 0), body("gamma", 2))
			for j := i; j <= len(a); j++ {
				for _, last := range append([]int{len(a) - j}, nowhere...) {
					l := []api.Sheet{at(0), at(0, b, a[:i]), at(nowhere[(i+j)%len(nowhere)], a[i:j]), at(last, a[j:]), at(2, "xx", c)}
					if j == len(a) && last != 0 {
						l[3].Data = "" // it belongs to nothing
					}
					wantFound(t, "a body in three sheets", l, body("beta", 1), body("alpha", 1), body("gamma", 4))
				}
			}
		}
		l := []api.Sheet{at(0, a[:i]), at(len(a)-i, a[i:], b, c[:2]), at(len(c)-2, c[2:], a)}
		wantFound(t, "bodies behind a head", l, body("alpha", 0), body("beta", 1), body("gamma", 1), body("alpha", 2))
	}
}

// P8.1: a body whose bytes come one by one, and whose length is cut too.
func TestFindByteByByte(t *testing.T) {
	for _, size := range []int{0, 1, 127, 128, 300, 4095, 4096} {
		text := textOf(size, size)
		all := sealed(text)
		l := []api.Sheet{at(0, c), at(0, all[:1])}
		for _, x := range []byte(all[1:]) {
			l = append(l, at(255, string([]byte{x})), at(255))
		}
		wantFound(t, "all bytes but one", l[:len(l)-2], body("gamma", 0))
		wantFound(t, "all bytes", l, body("gamma", 0), body(text, 1))
		wantFound(t, "all bytes, and another body", append(l, at(0, b)), body("gamma", 0), body(text, 1), body("beta", len(l)))
	}
}

// P8.1: a head that does not complete the body: it is given up if a First is told, and goes on if none is.
func TestFindHeadTooShort(t *testing.T) {
	for i := 4; i < len(a); i++ {
		head := a[3:i]
		start := at(0, c, a[:3])
		wantFound(t, "given up for another body", []api.Sheet{start, at(len(head), head, b)}, body("gamma", 0), body("beta", 1))
		wantFound(t, "given up for another body, which goes on", []api.Sheet{start, at(len(head), head, b[:2]), at(255, b[2:])}, body("gamma", 0), body("beta", 1))
		wantFound(t, "given up for nothing", []api.Sheet{start, at(len(head), head), at(255, a[i:]), at(0, b)}, body("gamma", 0), body("beta", 3))
		wantFound(t, "given up for nothing, with a head that would complete it", []api.Sheet{start, at(len(head), head), at(len(a)-i, a[i:], b)}, body("gamma", 0), body("beta", 2))
		for _, first := range nowhere {
			wantFound(t, "not given up", []api.Sheet{start, at(first, head), at(255, a[i:]), at(0, b)}, body("gamma", 0), body("alpha", 0), body("beta", 3))
			wantFound(t, "not given up, then given up", []api.Sheet{start, at(first, head), at(0, b)}, body("gamma", 0), body("beta", 2))
		}
	}
	wantFound(t, "given up at once", []api.Sheet{at(0, a[:3]), at(0, b)}, body("beta", 1))
	wantFound(t, "given up again and again", []api.Sheet{at(0, a[:3]), at(0, b[:3]), at(0, c[:3]), at(0, a[:4]), at(255, a[4:])}, body("alpha", 3))
	wantFound(t, "given up, and what is bad behind it", []api.Sheet{at(0, a[:3]), at(0, spoilt(b, 2)), at(0, c)})
	wantFound(t, "given up, all of it then at the end", []api.Sheet{at(0, a[:3]), at(0, b, a[:3])}, body("beta", 1))
}

// P8.1: bytes that remain behind the body that a head completes end it all: that body, those in the same sheet and all later ones are not found.
func TestFindHeadTooLong(t *testing.T) {
	for _, more := range []string{"x", "\x00", "\x80", b, b[:1], a, sealed(""), textOf(100, 1)} {
		for i := 1; i < len(a); i++ {
			for _, first := range append([]int{len(a) - i + len(more)}, nowhere...) {
				l := []api.Sheet{at(0, b, a[:i]), at(first, a[i:], more), at(0, c)}
				wantFound(t, "a head that is too long", l, body("beta", 0))
				if first > 0 && first <= len(l[1].Data) {
					l[1].Data += b
					wantFound(t, "a head that is too long, and a body behind it", l, body("beta", 0))
				}
			}
			wantFound(t, "a head that is too long in the second sheet", []api.Sheet{at(0, b, a[:i]), at(255), at(255, a[i:], more), at(0, c)}, body("beta", 0))
		}
	}
}

// P8.1: a head by which opening fails ends it all.
func TestFindHeadSpoilt(t *testing.T) {
	long := textOf(300, 5)
	all := sealed(long)
	for i := 1; i < len(a); i++ {
		for k := i; k < len(a); k++ {
			bad := spoilt(a, k)
			for _, first := range append([]int{len(a) - i}, nowhere...) {
				l := []api.Sheet{at(0, b, a[:i]), at(first, bad[i:]), at(0, c)}
				wantFound(t, "a spoilt head", l, body("beta", 0))
			}
			wantFound(t, "a spoilt head, and a body behind it", []api.Sheet{at(0, b, a[:i]), at(len(a)-i, bad[i:], c), at(0, c)}, body("beta", 0))
		}
	}
	for k := 2; k < len(a)-1; k++ {
		bad := spoilt(a, 1)
		wantFound(t, "a head behind a spoilt beginning", []api.Sheet{at(0, b, bad[:k]), at(len(a)-k, bad[k:], c), at(0, c)}, body("beta", 0))
	}
	for _, k := range []int{242, 243, 300, 301, 302, 304, 305} {
		wantFound(t, "a spoilt head of a longer body", []api.Sheet{at(0, all[:242]), at(64, spoilt(all, k)[242:], c)})
	}
	wantFound(t, "a length that is too great", []api.Sheet{at(0, b, "\xa0"), at(1, "\x01", c)}, body("beta", 0))
	wantFound(t, "a length that is too great", []api.Sheet{at(0, b, "\xff"), at(255, "\x7f"), at(0, c)}, body("beta", 0))
	wantFound(t, "a length that may be, but does not end", []api.Sheet{at(0, b, "\xa0"), at(1, "\x00", c)}, body("beta", 0), body("gamma", 1))
	wantFound(t, "a length without an end", []api.Sheet{at(0, b, "\xff\xff\xff\xff\xff"), at(255, "\xff\xff\xff\xff"), at(255, "\xff"), at(0, c)}, body("beta", 0))
	wantFound(t, "a length that may still end", []api.Sheet{at(0, b, "\xff\xff\xff\xff\xff"), at(255, "\xff\xff\xff\xff"), at(0, c)}, body("beta", 0), body("gamma", 2))
}

// bad are bytes with which opening fails, with each of the errors but ErrShort.
func bad() []string {
	return []string{spoilt(a, 1), spoilt(a, len(a)-1), spoilt(sealed(""), 4), "\x80", "\x80" + a, "\xa0\x01", "\xff\x7f", "\xff\xff\xff\xff\xff\xff\xff\xff\xff\xff\xff", "\x00\x00\x00\x00\x00"}
}

// P8.1: a body that can't be opened ends it all, in the first sheet, a middle one and the last one; what was found ahead of it stays found.
func TestFindSpoiltBodies(t *testing.T) {
	for _, x := range bad() {
		wantFound(t, "in the first sheet", []api.Sheet{at(0, x), at(0, b), at(0, c)})
		wantFound(t, "in the first sheet, ahead of another", []api.Sheet{at(0, x, b), at(0, c)})
		wantFound(t, "in the first sheet, behind another", []api.Sheet{at(0, b, x), at(0, c)}, body("beta", 0))
		wantFound(t, "in the first sheet, behind a head", []api.Sheet{at(4, "head", x), at(0, c)})
		wantFound(t, "in a middle sheet", []api.Sheet{at(0, b), at(0, x), at(0, c)}, body("beta", 0))
		wantFound(t, "in a middle sheet, behind another", []api.Sheet{at(0, b), at(0, b, x), at(0, c)}, body("beta", 0), body("beta", 1))
		wantFound(t, "in a middle sheet, behind the end of another", []api.Sheet{at(0, b, a[:3]), at(len(a)-3, a[3:], x), at(0, c)}, body("beta", 0), body("alpha", 0))
		wantFound(t, "in a middle sheet, behind a body that is given up", []api.Sheet{at(0, b, a[:3]), at(0, x), at(0, c)}, body("beta", 0))
		wantFound(t, "in the last sheet", []api.Sheet{at(0, b), at(0, c), at(0, x)}, body("beta", 0), body("gamma", 1))
		wantFound(t, "in the last sheet, behind another", []api.Sheet{at(0, b), at(0, c, a, x, b)}, body("beta", 0), body("gamma", 1), body("alpha", 1))
		for _, first := range nowhere {
			wantFound(t, "where no body begins", []api.Sheet{at(0, b), at(first, x), at(0, c)}, body("beta", 0), body("gamma", 2))
		}
		wantFound(t, "ahead of First", []api.Sheet{at(0, b), at(len(x), x, c), at(0, c)}, body("beta", 0), body("gamma", 1), body("gamma", 2))
	}
}

// P8.1: a First where Data ends: all of Data is the head, and no body begins; one that is incomplete is given up.
func TestFindFirstAtTheEnd(t *testing.T) {
	wantFound(t, "a head that belongs to nothing", []api.Sheet{at(0, b), at(3, "xyz"), at(0, c)}, body("beta", 0), body("gamma", 2))
	wantFound(t, "a head that completes a body", []api.Sheet{at(0, a[:4]), at(len(a)-4, a[4:]), at(0, c)}, body("alpha", 0), body("gamma", 2))
	wantFound(t, "a head that completes no body", []api.Sheet{at(0, a[:4]), at(2, a[4:6]), at(255, a[6:]), at(0, c)}, body("gamma", 3))
	wantFound(t, "one byte beyond the end", []api.Sheet{at(0, a[:4]), at(3, a[4:6]), at(255, a[6:]), at(0, c)}, body("alpha", 0), body("gamma", 3))
	wantFound(t, "one byte ahead of the end", []api.Sheet{at(0, a[:4]), at(1, a[4:5], b[:1]), at(255, b[1:]), at(0, c)}, body("beta", 1), body("gamma", 3))
}

// P8.1: sheets without Data: with a First of 0 they give up a body that is incomplete; without one they change nothing.
func TestFindWithoutData(t *testing.T) {
	for _, first := range append([]int{1}, nowhere...) {
		wantFound(t, "no First", []api.Sheet{at(first), at(0, a[:4]), at(first), at(first), at(len(a)-4, a[4:], b), at(first)}, body("alpha", 1), body("beta", 4))
	}
	wantFound(t, "First is 0", []api.Sheet{at(0), at(0, b, a[:4]), at(0), at(len(a)-4, a[4:], c), at(0)}, body("beta", 1), body("gamma", 3))
	wantFound(t, "First is 0, and no body is incomplete", []api.Sheet{at(0, a), at(0), at(0, b), at(0), at(0)}, body("alpha", 0), body("beta", 2))
}

// P8.1: First is an offset wherever Data has so many bytes, though a sheet with more than 242 is not valid.
func TestFindInSheetsThatAreNotValid(t *testing.T) {
	head := textOf(255, 1)
	wantFound(t, "First is 255, and Data is longer", []api.Sheet{at(255, head, a, b)}, body("alpha", 0), body("beta", 0))
	wantFound(t, "First is 255, and Data has as many bytes", []api.Sheet{at(0, a[:4]), at(255, strings.Repeat("x", 255)), at(0, c)})
	wantFound(t, "First is 256, and Data is longer", []api.Sheet{at(256, head, "x", a)}, body("alpha", 0))
	long := textOf(4000, 2)
	all := sealed(long)
	wantFound(t, "a long body in one sheet", []api.Sheet{at(0, all, a)}, body(long, 0), body("alpha", 0))
	wantFound(t, "a long body in two sheets", []api.Sheet{at(0, all[:300]), at(len(all)-300, all[300:], a)}, body(long, 0), body("alpha", 1))
	wantFound(t, "First is 255 behind an incomplete body", []api.Sheet{at(0, all[:len(all)-255]), at(255, all[len(all)-255:], a)}, body(long, 0), body("alpha", 1))
	wantFound(t, "First is 255 behind an incomplete body, and ends it too soon", []api.Sheet{at(0, all[:len(all)-300]), at(255, all[len(all)-300:len(all)-45], a)}, body("alpha", 1))
}

// P8.1: Inc and Pos do not count.
func TestFindInAnyPositions(t *testing.T) {
	for _, n := range []int{0, -1, 5, 1 << 40, 1<<40 + 1, math.MaxInt, math.MinInt} {
		l := []api.Sheet{
			{Inc: n, Pos: 9, First: 0, Data: a[:4]}, {Inc: 3, Pos: n, First: len(a) - 4, Data: a[4:] + b},
			{Inc: -n, Pos: n, First: 0, Data: c[:1]}, {Inc: n, Pos: n, First: 255, Data: c[1:]},
		}
		wantFound(t, "any Inc and Pos", l, body("alpha", 0), body("beta", 1), body("gamma", 2))
	}
}

// P8.1: equal sheets twice.
func TestFindEqualSheets(t *testing.T) {
	whole, start, end := at(0, a, b), at(0, b, a[:4]), at(len(a)-4, a[4:], c)
	wantFound(t, "whole bodies twice", []api.Sheet{whole, whole}, body("alpha", 0), body("beta", 0), body("alpha", 1), body("beta", 1))
	wantFound(t, "the beginning of a body twice", []api.Sheet{start, start, end}, body("beta", 0), body("beta", 1), body("alpha", 1), body("gamma", 2))
	wantFound(t, "the end of a body twice", []api.Sheet{start, end, end}, body("beta", 0), body("alpha", 0), body("gamma", 1), body("gamma", 2))
	wantFound(t, "both twice", []api.Sheet{start, end, start, end}, body("beta", 0), body("alpha", 0), body("gamma", 1), body("beta", 2), body("alpha", 2), body("gamma", 3))
	wantFound(t, "the end ahead of the beginning", []api.Sheet{end, start}, body("gamma", 0), body("beta", 1))
	l := laid(1, 0, "one", textOf(700, 1), "two")
	wantFound(t, "laid sheets", l, body("one", 0), body(textOf(700, 1), 0), body("two", 2))
	wantFound(t, "the middle of a body twice", slices.Insert(slices.Clone(l), 1, l[1]), body("one", 0))
	wantFound(t, "the last sheet of a body twice", append(slices.Clone(l), l[2]), body("one", 0), body(textOf(700, 1), 0), body("two", 2), body("two", 3))
	wantFound(t, "the first sheet of a body twice", slices.Insert(slices.Clone(l), 0, l[0]), body("one", 0), body("one", 1), body(textOf(700, 1), 1), body("two", 3))
}

// P8.1: sheets left out.
func TestFindSheetsLeftOut(t *testing.T) {
	long := textOf(690, 1)
	l := laid(1, 0, "one", long, "two", "three")
	wantFound(t, "no first sheet", l[1:], body("two", 1), body("three", 1))
	wantFound(t, "no middle sheet", []api.Sheet{l[0], l[2]}, body("one", 0), body("two", 1), body("three", 1))
	wantFound(t, "no last sheet", l[:2], body("one", 0))
	wantFound(t, "neither first nor last", l[1:2])
	longer := textOf(1000, 2)
	l = laid(1, 0, "one", longer, "two")
	wantFound(t, "one middle sheet less", []api.Sheet{l[0], l[1], l[3], l[4]}, body("one", 0), body("two", 3))
	wantFound(t, "one middle sheet for another", []api.Sheet{l[0], l[1], l[1], l[3], l[4]}, body("one", 0))
	wantFound(t, "two middle sheets the wrong way round", []api.Sheet{l[0], l[2], l[1], l[3], l[4]}, body("one", 0))
	wantFound(t, "two sheets less, and then all of them", []api.Sheet{l[0], l[1], l[3], l[0], l[1], l[2], l[3], l[4]}, body("one", 0), body("one", 3), body(longer, 3), body("two", 7))
}

// P8.1: sheets that were laid, and then left out, doubled, spoilt, cut or told another First, without a pattern.
func TestFindInAnySheets(t *testing.T) {
	var d draw
	bodies, nothing := 0, 0
	for range 6000 {
		l := drawSheets(&d)
		want := foundIn(l)
		if wantFound(t, "any sheets", l, want...); t.Failed() {
			t.Fatalf("the sheets are %s", told(l...))
		}
		bodies += len(want)
		if len(want) == 0 {
			nothing++
		}
	}
	if bodies < 12000 || nothing > 3000 {
		t.Errorf("%d bodies were found, and in %d lists none", bodies, nothing)
	}
}

// drawSheets is sheets as they might be found on a disk, or worse.
func drawSheets(d *draw) []api.Sheet {
	var l []api.Sheet
	for range 1 + d.below(3) {
		some := laid(d.below(9), d.below(9), drawBodies(d)...)
		l = append(l, some[:d.below(len(some)+1)]...)
	}
	for range d.below(4) {
		if len(l) == 0 {
			break
		}
		i := d.below(len(l))
		switch s := &l[i]; d.below(8) {
		case 0:
			l = slices.Delete(l, i, i+1)
		case 1:
			l = slices.Insert(l, i, l[i])
		case 2:
			j := d.below(len(l))
			l[i], l[j] = l[j], l[i]
		case 3:
			if len(s.Data) > 0 {
				s.Data = spoilt(s.Data, d.below(len(s.Data)))
			}
		case 4:
			s.Data = s.Data[:d.below(len(s.Data)+1)]
		case 5:
			s.First = pick(d, []int{-1, 0, 255, len(s.Data), len(s.Data) + 1, d.below(256)})
		case 6:
			s.Data += pick(d, []string{"x", "\x00", "\x80", a, b[:3]})
		case 7:
			l = slices.Insert(l, i, at(pick(d, []int{0, 1, 255})))
		}
	}
	return l
}
