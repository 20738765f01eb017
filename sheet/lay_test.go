package sheet_test

import (
	"math"
	"slices"
	"strings"
	"testing"

	"troth/api"
	"troth/sheet"
)

// wantLaid fails if bodies are laid into other sheets.
func wantLaid(t *testing.T, what string, inc, pos int, bodies []string, want []api.Sheet) {
	t.Helper()
	l, e := sheet.Lay(inc, pos, bytesOf(bodies...))
	if e != api.OK || len(l) != len(want) {
		t.Errorf("%s: Lay is %d sheets, %d; want %d, OK", what, len(l), e, len(want))
		return
	}
	for i, s := range l {
		if s != want[i] {
			t.Errorf("%s: sheet %d is %s; want %s", what, i, told(s), told(want[i]))
		}
	}
}

// wantNotLaid fails if laying bodies does not fail with an error, and no sheets beside it.
func wantNotLaid(t *testing.T, what string, inc, pos int, bodies []string, want api.Errno) {
	t.Helper()
	if l, e := sheet.Lay(inc, pos, bytesOf(bodies...)); e != want || len(l) != 0 {
		t.Errorf("%s: Lay at %d, %d is %d sheets, %d; want none, %d", what, inc, pos, len(l), e, want)
	}
}

// wantFirsts fails if the sheets of bodies have other Firsts, or other lengths of Data.
func wantFirsts(t *testing.T, what string, bodies []string, firsts, lengths []int) {
	t.Helper()
	l, e := sheet.Lay(3, 10, bytesOf(bodies...))
	var gotFirsts, gotLengths []int
	for i, s := range l {
		gotFirsts = append(gotFirsts, s.First)
		gotLengths = append(gotLengths, len(s.Data))
		if s.Inc != 3 || s.Pos != 10+i {
			t.Errorf("%s: sheet %d has Inc %d and Pos %d; want 3 and %d", what, i, s.Inc, s.Pos, 10+i)
		}
	}
	if e != api.OK || !slices.Equal(gotFirsts, firsts) || !slices.Equal(gotLengths, lengths) {
		t.Errorf("%s: Lay is sheets with First %v and %v bytes, %d; want %v and %v, OK", what, gotFirsts, gotLengths, e, firsts, lengths)
	}
	wantLaid(t, what, 3, 10, bodies, laid(3, 10, bodies...))
}

// P8.1: the chapter's example.
func TestExample(t *testing.T) {
	body := strings.Repeat("b", 300)
	wantFirsts(t, "one body of 300 bytes", []string{body}, []int{0, 255}, []int{242, 64})
	l, _ := sheet.Lay(3, 10, bytesOf(body))
	if all := l[0].Data + l[1].Data; all[:2] != "\x82\x2c" || all[2:302] != body || len(all) != 306 {
		t.Errorf("the sheets of one body of 300 bytes have %d bytes %v", len(all), []byte(all))
	}
	wantFound(t, "one body of 300 bytes", l, api.Found{Body: body, Sheet: 0})
}

// P8.1: sheets written out.
func TestSheetsWrittenOut(t *testing.T) {
	const a, empty = "\x01a\x70\x72\x77\x62", "\x00\x8d\xef\x02\xd2"
	wantLaid(t, "no bodies", 1, 2, nil, nil)
	wantLaid(t, "an empty body", 1, 2, []string{""}, []api.Sheet{{Inc: 1, Pos: 2, First: 0, Data: empty}})
	wantLaid(t, "one body", 0, 0, []string{"a"}, []api.Sheet{{Inc: 0, Pos: 0, First: 0, Data: a}})
	wantLaid(t, "three bodies", 5, 9, []string{"a", "", "a"}, []api.Sheet{{Inc: 5, Pos: 9, First: 0, Data: a + empty + a}})
	wantLaid(t, "many bodies", most, 7, slices.Repeat([]string{""}, 50), []api.Sheet{
		{Inc: most, Pos: 7, First: 0, Data: strings.Repeat(empty, 48) + empty[:2]},
		{Inc: most, Pos: 8, First: 3, Data: empty[2:] + empty},
	})
}

// P8.1: First, and where sheets end, for bodies that end at the ends of sheets and beside them.
func TestFirsts(t *testing.T) {
	for _, c := range []struct {
		what            string
		sizes           []int
		firsts, lengths []int
	}{
		{"no bodies", nil, nil, nil},
		{"an empty body", []int{0}, []int{0}, []int{5}},
		{"a body that ends one byte before its sheet does", []int{235}, []int{0}, []int{241}},
		{"a body that ends with its sheet", []int{236}, []int{0}, []int{242}},
		{"a body that ends one byte behind its sheet", []int{237}, []int{0, 255}, []int{242, 1}},
		{"another body behind one that ends one byte before its sheet does", []int{235, 0}, []int{0, 255}, []int{242, 4}},
		{"another body behind one that ends with its sheet", []int{236, 0}, []int{0, 0}, []int{242, 5}},
		{"another body behind one that ends one byte behind its sheet", []int{237, 0}, []int{0, 1}, []int{242, 6}},
		{"two more bodies, the first of which begins in the last byte", []int{235, 0, 1}, []int{0, 4}, []int{242, 10}},
		{"a body that begins in the last byte of a sheet behind a head", []int{477, 0}, []int{0, 241, 255}, []int{242, 242, 4}},
		{"a body that ends with its second sheet", []int{478}, []int{0, 255}, []int{242, 242}},
		{"another body behind one that ends with its second sheet", []int{478, 7}, []int{0, 255, 0}, []int{242, 242, 12}},
		{"a body of three sheets in which another one begins at the end", []int{479, 300, 2}, []int{0, 255, 1, 65}, []int{242, 242, 242, 72}},
		{"two bodies that fill a sheet each", []int{236, 236}, []int{0, 0}, []int{242, 242}},
		{"many bodies in one sheet", append(times(21, 6), 6), []int{0}, []int{242}},
		{"many bodies, and one byte more than a sheet", append(times(21, 6), 7), []int{0, 255}, []int{242, 1}},
		{"one body in many sheets", []int{4096}, append([]int{0}, times(16, 255)...), append(times(16, 242), 230)},
		{"one body in many sheets, and another", []int{4096, 0}, append(append([]int{0}, times(15, 255)...), 230), append(times(16, 242), 235)},
		{"two bodies in many sheets", []int{4096, 4096}, slices.Concat([]int{0}, times(15, 255), []int{230}, times(17, 255)), append(times(33, 242), 218)},
	} {
		wantFirsts(t, c.what, textsOf(1, c.sizes...), c.firsts, c.lengths)
	}
}

// P8.1: bodies of every size up to some sheets' bytes, alone, and between two others.
func TestBodiesOfEverySize(t *testing.T) {
	for n := range 1000 {
		wantLaid(t, "one body", 4, n, textsOf(n, n), laid(4, n, textsOf(n, n)...))
		bodies := textsOf(n, n%300, n, 9)
		wantLaid(t, "three bodies", n, 4, bodies, laid(n, 4, bodies...))
	}
	for _, n := range []int{4000, 4094, 4095, 4096} {
		bodies := textsOf(n, n, 0, n, 1, n)
		wantLaid(t, "great bodies", 4, n, bodies, laid(4, n, bodies...))
	}
}

// P8.1: an Inc or a position that may not be, whatever the bodies are.
func TestLayArguments(t *testing.T) {
	bad := []int{-1, 1 << 40, 1<<40 + 1, -2, 1 << 41, -(1 << 40), math.MaxInt - 1, math.MaxInt, math.MinInt, math.MinInt + 1}
	good := []int{0, 1, 1 << 20, most - 20, most}
	for _, bodies := range [][]string{nil, {""}, {textOf(100, 1)}, {textOf(4096, 1)}, {textOf(4097, 1)}, textsOf(1, 300, 4097, 2)} {
		for _, n := range bad {
			for _, m := range good {
				wantNotLaid(t, "a bad Inc", n, m, bodies, api.ErrArg)
				wantNotLaid(t, "a bad position", m, n, bodies, api.ErrArg)
			}
			for _, m := range bad {
				wantNotLaid(t, "a bad Inc and a bad position", n, m, bodies, api.ErrArg)
			}
		}
	}
	for _, inc := range good {
		for _, pos := range []int{0, 1, 1 << 20, most - 20, most} {
			wantLaid(t, "an Inc and a position that may be", inc, pos, []string{"a"}, laid(inc, pos, "a"))
			wantLaid(t, "no bodies", inc, pos, nil, nil)
		}
	}
}

// P8.1: bodies of 4096 bytes may be, and longer ones not, wherever they stand.
func TestLayLongBodies(t *testing.T) {
	for _, n := range []int{4097, 4098, 5000, 8192, 1 << 16} {
		for _, sizes := range [][]int{{n}, {n, 1}, {1, n}, {0, n, 4096}, {4096, 4096, n}, {n, n}} {
			for _, pos := range []int{0, most - 100, most - 1, most} {
				wantNotLaid(t, "a body that is too long", 1, pos, textsOf(1, sizes...), api.ErrLong)
			}
		}
	}
	wantNotLaid(t, "the last of many bodies is too long", 1, 1, textsOf(1, append(times(500, 100), 4097)...), api.ErrLong)
	wantNotLaid(t, "too long for its position too, ahead of a body that is too long", 1, most, textsOf(1, 4096, 4097), api.ErrLong)
	bodies := textsOf(1, 4096)
	wantLaid(t, "a body of 4096 bytes", 1, 1, bodies, laid(1, 1, bodies...))
}

// P8.1: positions up to 2^40 - 1, and one past it.
func TestLayPositions(t *testing.T) {
	for _, c := range []struct {
		sizes  []int
		sheets int
	}{
		{[]int{0}, 1}, {[]int{235}, 1}, {[]int{236}, 1}, {[]int{237}, 2}, {[]int{235, 0}, 2}, {[]int{236, 0}, 2}, {[]int{100, 100, 100}, 2},
		{[]int{478}, 2}, {[]int{479}, 3}, {[]int{4096}, 17}, {times(48, 0), 1}, {times(49, 0), 2}, {times(10, 4096), 170}, {times(242, 236), 242},
	} {
		bodies := textsOf(1, c.sizes...)
		for _, spare := range []int{0, 1, 2} {
			pos := most + 1 - c.sheets - spare
			l, e := sheet.Lay(2, pos, bytesOf(bodies...))
			if e != api.OK || len(l) != c.sheets || l[len(l)-1].Pos != most-spare {
				t.Errorf("Lay of %d bodies at %d is %d sheets, %d; want %d, OK", len(bodies), pos, len(l), e, c.sheets)
			}
			wantLaid(t, "positions that just may be", 2, pos, bodies, laid(2, pos, bodies...))
		}
		for past := 1; past < c.sheets; past++ {
			wantNotLaid(t, "a position that may not be", 2, most+1-c.sheets+past, bodies, api.ErrFull)
		}
	}
	wantLaid(t, "no bodies at the last position", 2, most, nil, nil)
}

// P8.1: an Inc of 2^40 - 1 does not bound positions, nor does a position bound Inc.
func TestLayIncAndPosition(t *testing.T) {
	body := textOf(1000, 1)
	wantLaid(t, "the greatest Inc", most, 0, []string{body}, laid(most, 0, body))
	wantLaid(t, "the greatest position", 0, most-4, []string{body}, laid(0, most-4, body))
	wantNotLaid(t, "a position too great", 0, most-3, []string{body}, api.ErrFull)
	wantLaid(t, "both", most, most-4, []string{body}, laid(most, most-4, body))
}

// P8.1: sheets that were laid are valid, all but the last one are full, and their Data are the sealed bodies, cut.
func TestLaidSheets(t *testing.T) {
	var d draw
	for range 300 {
		bodies := drawBodies(&d)
		pos := d.below(1 << 30)
		wantLaid(t, "bodies without a pattern", 7, pos, bodies, laid(7, pos, bodies...))
		l, _ := sheet.Lay(7, pos, bytesOf(bodies...))
		all := ""
		for i, s := range l {
			if !isValid(s) || len(s.Data) != full && i < len(l)-1 || len(s.Data) == 0 {
				t.Fatalf("sheet %d of %d is %s", i, len(l), told(s))
			}
			all += s.Data
		}
		if all != sealedAll(bodies...) {
			t.Fatalf("the Data of sheets are not the sealed bodies")
		}
	}
}

// drawBodies is some bodies of sizes without a pattern: small ones, some that just fill a sheet, and great ones.
func drawBodies(d *draw) []string {
	var l []string
	for i := range d.below(12) {
		size := pick(d, []int{0, 1, 2 + d.below(10), d.below(100), 231 + d.below(8), d.below(800), 473 + d.below(8), d.below(2000)})
		l = append(l, textOf(size, d.below(200)+i))
	}
	return l
}
