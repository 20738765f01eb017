package page_test

import (
	"math"
	"slices"
	"strings"
	"testing"

	"troth/api"
	pages "troth/page"
)

// wantSet fails if Set returns anything but what the chapter has.
func wantSet(t *testing.T, what string, p api.Page, lsn int, key string, v api.Value) api.Page {
	t.Helper()
	want, code := set(p, lsn, key, v)
	kept := plain(p)
	q, e := pages.Set(p, lsn, key, v)
	if e != code || !same(q, want) {
		t.Errorf("%s: Set(%s, %d, %q, %v) is %s, %d; want %s, %d", what, told(kept), lsn, key, v, told(q), e, told(want), code)
	}
	if !same(p, kept) {
		t.Errorf("%s: Set changes its argument", what)
	}
	return q
}

// wantError fails if Set does not fail with an error, and the zero page beside it.
func wantError(t *testing.T, what string, p api.Page, lsn int, key string, v api.Value, want api.Errno) {
	t.Helper()
	if q, e := pages.Set(p, lsn, key, v); e != want || q.Lsn != 0 || len(q.Cells) != 0 {
		t.Errorf("%s: Set(%s, %d, %q, %v) is %s, %d; want the zero page, %d", what, told(p), lsn, key, v, told(q), e, want)
	}
}

// P10.1: the chapter's example.
func TestExample(t *testing.T) {
	for _, v := range []api.Value{none, has(""), has("x")} {
		p, e := pages.Set(api.Page{}, 7, "a", v)
		if e != api.OK || p.Lsn != 7 || len(p.Cells) != 1 || p.Cells[0] != (api.Cell{Key: "a", Val: v}) {
			t.Errorf("Set in the empty page is %s, %d", told(p), e)
		}
	}
}

// P10.1: where the cell of a key goes.
func TestSetPlaces(t *testing.T) {
	three := page(9, "b", "d", "f")
	b, d, f := three.Cells[0], three.Cells[1], three.Cells[2]
	for _, c := range []struct {
		key  string
		want []api.Cell
	}{
		{"a", []api.Cell{{Key: "a", Val: has("new")}, b, d, f}},
		{"b", []api.Cell{{Key: "b", Val: has("new")}, d, f}},
		{"bb", []api.Cell{b, {Key: "bb", Val: has("new")}, d, f}},
		{"c", []api.Cell{b, {Key: "c", Val: has("new")}, d, f}},
		{"d", []api.Cell{b, {Key: "d", Val: has("new")}, f}},
		{"e", []api.Cell{b, d, {Key: "e", Val: has("new")}, f}},
		{"f", []api.Cell{b, d, {Key: "f", Val: has("new")}}},
		{"f\x00", []api.Cell{b, d, f, {Key: "f\x00", Val: has("new")}}},
		{"\xff", []api.Cell{b, d, f, {Key: "\xff", Val: has("new")}}},
		{"\x00", []api.Cell{{Key: "\x00", Val: has("new")}, b, d, f}},
	} {
		p, e := pages.Set(three, 10, c.key, has("new"))
		if e != api.OK || !same(p, api.Page{Lsn: 10, Cells: c.want}) {
			t.Errorf("Set of %q is %s, %d", c.key, told(p), e)
		}
	}
}

// P10.1: every page with every key, value and Lsn.
func TestSetAll(t *testing.T) {
	t.Parallel()
	for _, p := range append(goodPages(), badPages()...) {
		l := keys()
		for _, c := range p.Cells {
			l = append(l, c.Key)
		}
		for _, key := range l {
			for _, v := range values() {
				for _, lsn := range lsns {
					wantSet(t, "any arguments", p, lsn, key, v)
				}
			}
		}
		if t.Failed() {
			return
		}
	}
}

// P10.1: the Lsn that is set need not be greater than the page's.
func TestSetLsn(t *testing.T) {
	for _, c := range []struct {
		lsn  int
		want api.Errno
	}{{math.MinInt, api.ErrArg}, {-1, api.ErrArg}, {0, api.ErrArg}, {1, api.OK}, {8, api.OK}, {9, api.OK}, {10, api.OK}, {most, api.OK}, {most + 1, api.ErrArg}, {math.MaxInt, api.ErrArg}} {
		for _, old := range []int{0, 9, most} {
			if c.want != api.OK {
				wantError(t, "a bad Lsn", page(old, "a"), c.lsn, "a", has("x"), c.want)
				continue
			}
			if p, e := pages.Set(page(old, "a"), c.lsn, "a", has("x")); e != api.OK || !same(p, api.Page{Lsn: c.lsn, Cells: []api.Cell{{Key: "a", Val: has("x")}}}) {
				t.Errorf("Set with the Lsn %d is %s, %d", c.lsn, told(p), e)
			}
		}
	}
}

// P10.1: errors of Set, and their order.
func TestSetErrors(t *testing.T) {
	full := page(9, "b", "d", "f", "h")
	long, longValue := strings.Repeat("k", 17), has(strings.Repeat("v", 33))
	for _, key := range []string{"a", "c", "e", "g", "i", "\x00", "\xff", strings.Repeat("k", 16)} {
		wantError(t, "a full page", full, 10, key, has("x"), api.ErrPage)
		wantError(t, "a full page", full, 10, key, none, api.ErrPage)
		wantError(t, "a full page, a bad value", full, 10, key, longValue, api.ErrArg)
		wantError(t, "a full page, an absent value with data", full, 10, key, api.Value{Data: "x"}, api.ErrArg)
		wantError(t, "a full page, a bad Lsn", full, 0, key, has("x"), api.ErrArg)
		wantError(t, "a full page, a bad Lsn", full, most+1, key, has("x"), api.ErrArg)
		wantError(t, "a full page that is not valid", page(9, "b", "d", "h", "f"), 10, key, has("x"), api.ErrArg)
		wantError(t, "a full page with a bad Lsn", page(-1, "b", "d", "f", "h"), 10, key, has("x"), api.ErrArg)
		wantError(t, "five cells", page(9, "b", "d", "f", "h", "j"), 10, key, has("x"), api.ErrArg)
	}
	wantError(t, "a full page, a bad key", full, 10, "", has("x"), api.ErrArg)
	wantError(t, "a full page, a bad key", full, 10, long, has("x"), api.ErrArg)
	wantError(t, "five cells, one of the key", page(9, "b", "d", "f", "h", "j"), 10, "j", has("x"), api.ErrArg)
	for _, c := range full.Cells {
		if p, e := pages.Set(full, 10, c.Key, none); e != api.OK || len(p.Cells) != 4 || pages.Get(p, c.Key) != none {
			t.Errorf("Set of a key of a full page is %s, %d", told(p), e)
		}
	}
}

// others fails if a page has another value of a key than a page had before, apart from one key.
func others(t *testing.T, before, after api.Page, but string) {
	t.Helper()
	for _, key := range append(keys(), "b", "c", "d", "e", "f", "g", "h", "i") {
		if key != but && pages.Get(after, key) != pages.Get(before, key) {
			t.Errorf("behind a Set of %q in %s, %q has another value in %s", but, told(before), key, told(after))
		}
	}
}

// P10.2: behind Set the key has the value and the others have theirs; behind a Set of the value that it had, the page is as before, but for the cell and the Lsn.
func TestSetAndBack(t *testing.T) {
	for _, p := range goodPages() {
		l := append(keys(), "b", "c", "d", "e", "h", "i")
		for _, key := range l {
			for _, v := range values() {
				q, e := pages.Set(p, 12, key, v)
				if e != api.OK {
					continue
				}
				if pages.Get(q, key) != v || q.Lsn != 12 {
					t.Fatalf("behind Set, %q has %v in %s", key, pages.Get(q, key), told(q))
				}
				others(t, p, q, key)
				back, e := pages.Set(q, 13, key, pages.Get(p, key))
				if e != api.OK {
					t.Fatalf("Set of the value that %q had in %s fails with %d", key, told(p), e)
				}
				others(t, p, back, "")
				want := slices.DeleteFunc(slices.Clone(back.Cells), func(c api.Cell) bool { return c.Key == key && !hasCell(p, key) })
				if back.Lsn != 13 || !slices.Equal(want, p.Cells) {
					t.Fatalf("behind Set and back, %s is %s", told(p), told(back))
				}
				if !hasCell(p, key) && !hasCell(back, key) {
					t.Fatalf("the cell of %q does not remain in %s", key, told(back))
				}
			}
		}
		if t.Failed() {
			return
		}
	}
}

// P10.2: the cell of an absent value remains, so that there is always room for the value that it had.
func TestAbsentRemains(t *testing.T) {
	p := page(9, "b", "d", "f")
	p = wantSet(t, "a fourth cell, absent", p, 10, "e", none)
	if !pages.Room(p, "e") || pages.Room(p, "a") {
		t.Errorf("Room of %s is %t for a key with a cell, %t for another one", told(p), pages.Room(p, "e"), pages.Room(p, "a"))
	}
	wantError(t, "a fifth cell", p, 11, "a", has("x"), api.ErrPage)
	p = wantSet(t, "a deletion", p, 11, "d", none)
	wantError(t, "a fifth cell behind a deletion", p, 12, "a", has("x"), api.ErrPage)
	p = wantSet(t, "a deletion undone", p, 12, "d", has("of d1"))
	if !same(p, api.Page{Lsn: 12, Cells: []api.Cell{{Key: "b", Val: has("of b0")}, {Key: "d", Val: has("of d1")}, {Key: "e"}, {Key: "f", Val: has("of f2")}}}) {
		t.Errorf("behind a deletion that was undone, the page is %s", told(p))
	}
}

// P10.2 and P10.3: long rows of calls, held against a second writing-down of the chapter.
func TestManySets(t *testing.T) {
	t.Parallel()
	for seed := range 200 {
		state := uint64(seed)
		var p api.Page
		for range 200 {
			key := string(rune('a' + draw(&state, 7)))
			v := none
			if draw(&state, 3) > 0 {
				v = has(strings.Repeat(key, draw(&state, 34)))
			}
			lsn := draw(&state, 50)
			want, e := set(p, lsn, key, v)
			wantSet(t, "a row of calls", p, lsn, key, v)
			if e == api.OK {
				p = want
			}
			b, _ := pages.Encode(p)
			wantPage(t, "a row of calls", b, p)
		}
		if t.Failed() {
			return
		}
	}
}

// P10.1: Get and Room of every page with every key, whether they are valid or not.
func TestGetAndRoom(t *testing.T) {
	for _, p := range append(goodPages(), badPages()...) {
		l := append(keys(), "c", "d", "e", "f", "g", "h", "i")
		for _, c := range p.Cells {
			l = append(l, c.Key, c.Key+"x")
		}
		for _, key := range l {
			if v := pages.Get(p, key); v != got(p, key) {
				t.Errorf("Get(%s, %q) is %v; want %v", told(p), key, v, got(p, key))
			}
			if is := pages.Room(p, key); is != (hasCell(p, key) || len(p.Cells) <= 3) {
				t.Errorf("Room(%s, %q) is %t", told(p), key, is)
			}
		}
	}
}

// P10.1: in pages that are not valid, Get returns the first cell's value as it is.
func TestGetNotValid(t *testing.T) {
	p := page(-1, "c", "a", "", "b", "a", "c")
	p.Cells[3].Val = api.Value{Data: "absent"}
	for _, c := range []struct {
		key  string
		want api.Value
	}{{"c", has("of c0")}, {"a", has("of a1")}, {"", has("of 2")}, {"b", api.Value{Data: "absent"}}, {"d", none}} {
		if v := pages.Get(p, c.key); v != c.want {
			t.Errorf("Get of %q is %v; want %v", c.key, v, c.want)
		}
		if pages.Room(p, c.key) != (c.key != "d") {
			t.Errorf("Room of %q is %t", c.key, pages.Room(p, c.key))
		}
	}
}

// P10.1: Room of pages with each number of cells.
func TestRoom(t *testing.T) {
	all := []string{"a", "b", "c", "d", "e", "f"}
	for n := range 7 {
		p := page(3, all[:n]...)
		for i, key := range all {
			if is := pages.Room(p, key); is != (n < 4 || i < n) {
				t.Errorf("Room of %q in a page of %d cells is %t", key, n, is)
			}
		}
		for _, key := range []string{"", strings.Repeat("k", 17), "A"} {
			if is := pages.Room(p, key); is != (n < 4) {
				t.Errorf("Room of %q in a page of %d cells is %t", key, n, is)
			}
		}
	}
}

// P10.1: the page of a key.
func TestPlace(t *testing.T) {
	for _, c := range []struct {
		key         string
		pages, want int
	}{
		{"ab", 10, 5}, {"a", 64, 33}, {"a", 97, 0}, {"a", 98, 97}, {"\xff", 255, 0}, {"\xff", 256, 255}, {"", 64, 0}, {"ab", 1, 0}, {"ab", 0, 0}, {"ab", -1, 0}, {"ab", math.MinInt, 0}, {"ab", math.MaxInt, 3105}, {"ba", 10000, 3135},
	} {
		if n := pages.Place(c.key, c.pages); n != c.want {
			t.Errorf("Place(%q, %d) is %d; want %d", c.key, c.pages, n, c.want)
		}
	}
	for _, key := range append(keys(), "key", "another", "\x00a", strings.Repeat("long", 1000)) {
		for n := -3; n < 300; n++ {
			if got := pages.Place(key, n); got != place(key, n) {
				t.Errorf("Place(%q, %d) is %d; want %d", key, n, got, place(key, n))
			}
		}
		for _, n := range []int{1 << 31, 1<<32 - 1, 1<<58 + 9, 1<<62 + 1, math.MaxInt - 1, math.MaxInt} {
			if got := pages.Place(key, n); got != place(key, n) {
				t.Errorf("Place(%q, %d) is %d; want %d", key, n, got, place(key, n))
			}
		}
	}
}
