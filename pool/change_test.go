package pool_test

import (
	"math"
	"slices"
	"strings"
	"testing"

	"troth/api"
)

// P12.1: a page is what layer 10's Set makes of it, with its cells in the order of their keys.
func TestChange(t *testing.T) {
	p := fresh(t, 2, 2)
	p.fetch(t, api.OK, 0, 1)
	for _, c := range []struct {
		key string
		v   api.Value
	}{{"m", has("1")}, {"z", has("")}, {"a", api.Value{}}, {"m", has("2")}, {"m", api.Value{}}, {"aa", has(strings.Repeat("v", 32))}, {"a", has("3")}, {"z", has("4")}} {
		p.change(t, api.OK, 0, p.note(t, 1), c.key, c.v)
		p.page(t, api.OK, 0, 1)
	}
	want := api.Page{Lsn: 8, Cells: []api.Cell{{Key: "a", Val: has("3")}, {Key: "aa", Val: has(strings.Repeat("v", 32))}, {Key: "m"}, {Key: "z", Val: has("4")}}}
	if got, e := p.one.p.Page(0); e != api.OK || !samePage(got, want) {
		t.Errorf("the page is %+v, %d; want %+v", got, e, want)
	}
	if got, e := p.one.p.Page(1); e != api.OK || !samePage(got, api.Page{}) {
		t.Errorf("the other page is %+v, %d", got, e)
	}
}

// P12.1: what Set refuses is refused, with its errors in their order, and changes nothing: neither the page, nor its Lsn, nor Rec.
func TestChangesThatMayNotBe(t *testing.T) {
	for _, cells := range []int{0, 1, 3, 4} {
		p := fresh(t, 1, 1)
		p.fetch(t, api.OK, 0)
		keys := []string{"a", "b", "c", "d"}[:cells]
		for _, key := range keys {
			p.set(t, 0, key, "x")
		}
		for _, dirty := range []bool{true, false} {
			if !dirty {
				p.flush(t, api.OK, 0)
			}
			for _, key := range []string{"", strings.Repeat("k", 17), strings.Repeat("k", 5000)} {
				p.change(t, api.ErrArg, 0, 9, key, has("y"))
				p.change(t, api.ErrArg, 0, 9, key, api.Value{})
			}
			for _, v := range []api.Value{{Data: "y"}, {Data: strings.Repeat("v", 33)}, has(strings.Repeat("v", 33)), has(strings.Repeat("v", 5000))} {
				p.change(t, api.ErrArg, 0, 9, "a", v)
				p.change(t, api.ErrArg, 0, 9, "new", v)
			}
			for _, lsn := range []int{0, -1, most + 1, 2 * most, 1<<62 + 1, math.MinInt, math.MaxInt} {
				p.change(t, api.ErrArg, 0, lsn, "a", has("y"))
				p.change(t, api.ErrArg, 0, lsn, "new", has("y"))
				p.change(t, api.ErrArg, 0, lsn, "", has("y"))
			}
			if cells == 4 {
				p.change(t, api.ErrPage, 0, 9, "new", has("y"))
				p.change(t, api.ErrPage, 0, 9, "new", api.Value{})
				p.change(t, api.ErrPage, 0, most, strings.Repeat("k", 16), has("y"))
			}
			want := 0
			if dirty && cells > 0 {
				want = 1
			}
			p.wantNumbers(t, "changes that may not be", 0, 1, want, map[bool]int{true: 1}[!dirty && cells > 0])
		}
	}
}

// P12.1: the Lsns and keys at the edges of what may be.
func TestEdgesOfChange(t *testing.T) {
	for _, lsn := range []int{1, 2, most - 1, most} {
		p := fresh(t, 1, 1)
		p.fetch(t, api.OK, 0)
		p.do(t, "Change", api.OK, func(b buffer) api.Errno {
			return b.Change(0, lsn, strings.Repeat("k", 16), has(strings.Repeat("v", 32)))
		})
		p.do(t, "Change", api.OK, func(b buffer) api.Errno { return b.Change(0, lsn, "\x00", has("")) })
		p.wantNumbers(t, "an edge", 0, 1, lsn, 0)
		if got, e := p.one.p.Page(0); e != api.OK || got.Lsn != lsn || len(got.Cells) != 2 {
			t.Errorf("the page is %+v, %d", got, e)
		}
	}
}

// P12.1: Rec is the LSN of the first change since the page was last written, and 0 where there is none; Stamp is the turn of that writing.
func TestRecAndStamp(t *testing.T) {
	p := fresh(t, 2, 2)
	p.fetch(t, api.OK, 0)
	p.wantNumbers(t, "loaded for the first time", 0, 1, 0, 0)
	first := p.set(t, 0, "a", "1")
	p.wantNumbers(t, "the first change", 0, 1, first, 0)
	p.set(t, 0, "a", "2")
	p.set(t, 0, "b", "3")
	p.wantNumbers(t, "the third change", 0, 1, first, 0)
	p.change(t, api.ErrArg, 0, 0, "b", has("4"))
	p.wantNumbers(t, "a change that may not be", 0, 1, first, 0)
	p.flush(t, api.OK, 0)
	p.wantNumbers(t, "written back", 0, 1, 0, 1)
	p.change(t, api.ErrArg, 0, 99, "", has("4"))
	p.wantNumbers(t, "a change that may not be of a clean page", 0, 1, 0, 1)
	p.flush(t, api.OK, 0)
	p.wantNumbers(t, "clean, and written back", 0, 1, 0, 1)
	p.note(t, 3)
	again := p.set(t, 0, "a", "5")
	p.wantNumbers(t, "a change behind writing back", 0, 1, again, 1)
	p.set(t, 0, "a", "6")
	p.wantNumbers(t, "another one", 0, 1, again, 1)
	p.flush(t, api.OK, 0)
	p.wantNumbers(t, "written back twice", 0, 1, 0, 2)
	p.unpin(t, api.OK, 0)
	p.evict(t, api.OK, 0)
	p.fetch(t, api.OK, 0)
	p.wantNumbers(t, "evicted, and fetched again", 0, 1, 0, 2)
	p.fetch(t, api.OK, 1)
	p.wantNumbers(t, "the other page", 1, 1, 0, 0)
	last := p.set(t, 0, "a", "7")
	p.unpin(t, api.OK, 0)
	p.wantNumbers(t, "changed and unpinned", 0, 0, last, 2)
	p.evict(t, api.OK, 0)
	p.wantHeld(t, "evicted", 1)
	p.fetch(t, api.OK, 0)
	p.wantNumbers(t, "evicted while it was dirty, and fetched again", 0, 1, 0, 3)
}

// P12.1: a change to what the page has already is a change, and so is one with a smaller Lsn than the one ahead: Rec is that of the first one.
func TestChangesThatChangeLittle(t *testing.T) {
	p := fresh(t, 1, 1)
	p.fetch(t, api.OK, 0)
	p.note(t, 9)
	p.force(t)
	p.change(t, api.OK, 0, 5, "a", has("x"))
	p.flush(t, api.OK, 0)
	p.change(t, api.OK, 0, 5, "a", has("x"))
	p.wantNumbers(t, "the same change again", 0, 1, 5, 1)
	p.flush(t, api.OK, 0)
	p.wantSaved(t, "the same change again", 0, 2, 5)
	p.change(t, api.OK, 0, 7, "a", has("y"))
	p.change(t, api.OK, 0, 3, "a", has("x"))
	p.wantNumbers(t, "a smaller Lsn", 0, 1, 7, 2)
	if got, e := p.one.p.Page(0); e != api.OK || got.Lsn != 3 {
		t.Errorf("the page is %+v, %d; want the Lsn 3", got, e)
	}
	p.flush(t, api.OK, 0)
	p.wantSaved(t, "a smaller Lsn", 0, 3, 3)
	p.change(t, api.OK, 0, 1, "z", api.Value{})
	p.wantNumbers(t, "a value that is absent", 0, 1, 1, 3)
}

// P12.1: Dirty and Frames are in the order of the pages, whatever the order in which these came, were changed, and were written back.
func TestRisingLists(t *testing.T) {
	for _, step := range []int{1, 3, 5, 7, 11, 63} {
		p := fresh(t, 64, 64)
		recs := map[int]int{}
		for i := range 64 {
			n := (i*step + 17) % 64
			p.fetch(t, api.OK, n)
			if i%3 > 0 {
				recs[n] = p.set(t, n, "k", "x")
			}
		}
		for i := range 20 {
			n := i * 13 % 64
			p.flush(t, api.OK, n)
			delete(recs, n)
		}
		var want []api.Dirty
		for n := range 64 {
			if recs[n] > 0 {
				want = append(want, api.Dirty{Page: n, Rec: recs[n]})
			}
		}
		for range 5 {
			if got := p.one.p.Dirty(); !slices.Equal(got, want) {
				t.Fatalf("Dirty is %v; want %v", got, want)
			}
			p.wantHeld(t, "Frames", upTo(64)...)
		}
	}
}

// P12.1: Dirty has those pages that are dirty, pinned or not, and no others; Frames has all that are in frames.
func TestDirtyAndFrames(t *testing.T) {
	p := fresh(t, 6, 5)
	p.fetch(t, api.OK, 4, 1, 3, 0)
	one, three, four := p.set(t, 1, "a", "x"), p.set(t, 3, "a", "x"), p.set(t, 4, "a", "x")
	p.unpin(t, api.OK, 3, 0)
	want := []api.Dirty{{Page: 1, Rec: one}, {Page: 3, Rec: three}, {Page: 4, Rec: four}}
	if got := p.one.p.Dirty(); !slices.Equal(got, want) {
		t.Errorf("Dirty is %v; want %v", got, want)
	}
	p.flush(t, api.OK, 3, 0, 2)
	p.set(t, 1, "b", "y")
	if got := p.one.p.Dirty(); !slices.Equal(got, []api.Dirty{{Page: 1, Rec: one}, {Page: 4, Rec: four}}) {
		t.Errorf("Dirty is %v; want the pages 1 and 4", got)
	}
	frames := []api.Frame{
		{No: 0, Pins: 0},
		{No: 1, Pins: 1, Rec: one, Page: api.Page{Lsn: 4, Cells: []api.Cell{{Key: "a", Val: has("x")}, {Key: "b", Val: has("y")}}}},
		{No: 3, Pins: 0, Stamp: 1, Page: api.Page{Lsn: three, Cells: []api.Cell{{Key: "a", Val: has("x")}}}},
		{No: 4, Pins: 1, Rec: four, Page: api.Page{Lsn: four, Cells: []api.Cell{{Key: "a", Val: has("x")}}}},
	}
	if got := p.one.p.Frames(); !sameFrames(got, frames) {
		t.Errorf("Frames is %+v; want %+v", got, frames)
	}
	p.unpin(t, api.OK, 1, 4)
	p.evict(t, api.OK, 1, 4)
	if got := p.one.p.Dirty(); len(got) != 0 {
		t.Errorf("Dirty is %v; want none", got)
	}
	p.wantHeld(t, "behind Evict", 0, 3)
}
