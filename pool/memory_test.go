package pool_test

import (
	"slices"
	"testing"

	"troth/api"
	"troth/disk"
	"troth/pool"
	"troth/slot"
)

// spoilt is a cell that no page of these tests has.
var spoilt = api.Cell{Key: "spoilt", Val: has("spoilt")}

// spoil overwrites a list, and what its memory has beyond it.
func spoil[T any](l []T, with T) {
	l = l[:cap(l)]
	for i := range l {
		l[i] = with
	}
}

// filled is a pool of three pages of so many cells, all in frames, pinned; page 0 is dirty, page 1 was written back, and page 2 was loaded.
func filled(t *testing.T, cells int) *pair {
	t.Helper()
	keys := []string{"a", "b", "c", "d"}[:cells]
	p := fresh(t, 3, 3)
	p.fetch(t, api.OK, 2)
	for _, key := range keys {
		p.set(t, 2, key, "x")
	}
	p.unpin(t, api.OK, 2)
	p.evict(t, api.OK, 2)
	p.fetch(t, api.OK, 0, 1, 2)
	for _, key := range keys {
		p.set(t, 0, key, "x")
		p.set(t, 1, key, "x")
	}
	p.flush(t, api.OK, 1)
	return p
}

// P0.3: what Page returns may be written over: nothing becomes of the frame, of another result, of the disk, or of a later result.
func TestPageIsNewMemory(t *testing.T) {
	for i := range 3 * 4 {
		n, cells := i%3, 1+i/3
		p := filled(t, cells)
		before := image(t, p.one.d)
		first, _ := p.one.p.Page(n)
		second, _ := p.one.p.Page(n)
		want := api.Page{Lsn: second.Lsn, Cells: slices.Clone(second.Cells)}
		spoil(first.Cells, spoilt)
		_ = append(first.Cells[:0], spoilt)
		if !samePage(second, want) || len(want.Cells) != cells {
			t.Fatalf("a change of a result changes another one to %+v", second)
		}
		p.look(t, "behind a change of a result")
		if !alike(image(t, p.one.d), before) {
			t.Fatalf("a change of a result changes the disk")
		}
		p.set(t, n, "a", "y")
		p.flush(t, api.OK, n)
		p.unpin(t, api.OK, n)
		p.evict(t, api.OK, n)
		p.fetch(t, api.OK, n)
		if !samePage(second, want) {
			t.Fatalf("later calls change a result to %+v; want %+v", second, want)
		}
	}
}

// P0.3: what Frames and Dirty return may be written over, with all that is in it.
func TestListsAreNewMemory(t *testing.T) {
	for cells := 1; cells <= 4; cells++ {
		p := filled(t, cells)
		frames, dirty := p.one.p.Frames(), p.one.p.Dirty()
		again, dirtyAgain := p.one.p.Frames(), p.one.p.Dirty()
		for _, f := range frames {
			spoil(f.Page.Cells, spoilt)
		}
		p.look(t, "behind a change of the cells of Frames")
		spoil(frames, api.Frame{No: 9, Pins: 9, Rec: 9, Stamp: 9})
		spoil(dirty, api.Dirty{Page: 9, Rec: 9})
		p.look(t, "behind a change of Frames and Dirty")
		if !sameFrames(again, p.one.p.Frames()) || !slices.Equal(dirtyAgain, p.one.p.Dirty()) || len(again) != 3 || len(dirtyAgain) != 1 {
			t.Fatalf("a change of results changes others to %+v and %v", again, dirtyAgain)
		}
		kept, rec := again[0].Page.Cells[0], 1+cells
		p.set(t, 0, "a", "y")
		p.unpin(t, api.OK, 0)
		p.evict(t, api.OK, 0)
		if len(again) != 3 || again[0].Rec != rec || again[0].Pins != 1 || again[0].Page.Cells[0] != kept || dirtyAgain[0] != (api.Dirty{Page: 0, Rec: rec}) {
			t.Fatalf("later calls change results to %+v and %v", again, dirtyAgain)
		}
	}
}

// P0.3: no two lists of one answer share memory.
func TestListsOfFramesShareNothing(t *testing.T) {
	p := filled(t, 3)
	frames := p.one.p.Frames()
	for i := range frames {
		frames[i].Page.Cells = append(frames[i].Page.Cells, spoilt)
	}
	for i, f := range frames {
		for j, g := range frames {
			if i != j && &f.Page.Cells[0] == &g.Page.Cells[0] {
				t.Fatalf("the frames %d and %d share their cells", i, j)
			}
		}
		f.Page.Cells = f.Page.Cells[:len(f.Page.Cells)-1]
		frames[i] = f
	}
	if got := p.one.p.Frames(); !sameFrames(got, frames) {
		t.Fatalf("what is appended to cells changes others: %+v", frames)
	}
	p.look(t, "behind cells that were appended")
}

// P0.3: a page that was returned is a page of its own, also when it is saved elsewhere and changed again.
func TestPagesAsArguments(t *testing.T) {
	p := filled(t, 3)
	got, _ := p.one.p.Page(0)
	other := made(t, 2)
	if e := slot.Save(other, 0, 0, 1, got); e != api.OK {
		t.Fatalf("Save is %d", e)
	}
	spoil(got.Cells, spoilt)
	p.look(t, "a page that was saved elsewhere")
	if saved, _, e := slot.Load(other, 0, 0); e != api.OK || !samePage(saved, p.one.p.Frames()[0].Page) {
		t.Fatalf("the page that was saved elsewhere is %+v, %d", saved, e)
	}
}

// P0.3: pages that two pools have of one disk share nothing but the disk.
func TestTwoPoolsOfOneDisk(t *testing.T) {
	d := formatted(t, 2)
	l := logOn(t, d)
	one, two := poolOn(t, d, start, 2, 1, l), poolOn(t, d, start, 2, 1, l)
	ok := func(e api.Errno) {
		t.Helper()
		if e != api.OK {
			t.Fatalf("a call is %d", e)
		}
	}
	lsnOf := func(p *pool.Pool) int {
		t.Helper()
		got, e := p.Page(0)
		ok(e)
		return got.Lsn
	}
	for range 3 {
		_, e := l.Append(api.Rec{Kind: api.RecBegin}, 0)
		ok(e)
	}
	ok(one.Fetch(0))
	ok(one.Change(0, 1, "a", has("x")))
	ok(one.Flush(0))
	ok(two.Fetch(0))
	if got := lsnOf(two); got != 1 {
		t.Fatalf("the other pool has the Lsn %d of what was written back; want 1", got)
	}
	p, _ := two.Page(0)
	spoil(p.Cells, spoilt)
	ok(one.Change(0, 2, "a", has("y")))
	if lsnOf(one) != 2 || lsnOf(two) != 1 || len(one.Dirty()) != 1 || len(two.Dirty()) != 0 {
		t.Fatalf("a change of one pool's page is one of the other's: they have %+v and %+v", one.Frames(), two.Frames())
	}
	ok(two.Unpin(0))
	ok(two.Evict(0))
	if got := one.Frames(); len(got) != 1 || got[0].Pins != 1 || got[0].Rec != 2 {
		t.Fatalf("Evict of one pool leaves the other one %+v", got)
	}
	ok(two.Fetch(1))
	ok(two.Change(1, 3, "b", has("z")))
	ok(one.Flush(0))
	if got := two.Dirty(); !slices.Equal(got, []api.Dirty{{Page: 1, Rec: 3}}) {
		t.Fatalf("Flush of one pool leaves %v of the other one dirty", got)
	}
}

// P0.3: a disk that a crash left does not share anything with a pool that goes on.
func TestCrashIsApart(t *testing.T) {
	p := filled(t, 3)
	left := p.one.d.Crash(api.Crash{})
	before := image(t, left)
	for range 5 {
		p.set(t, 0, "a", "y")
		p.flush(t, api.OK, 0)
	}
	if !alike(image(t, left), before) {
		t.Fatalf("a pool that goes on changes a disk that a crash left")
	}
	again := open(t, left, 3, 3)
	again.fetch(t, api.OK, 0, 1, 2)
	again.wantNumbers(t, "behind a crash", 0, 1, 0, 0)
	again.wantNumbers(t, "behind a crash", 1, 1, 0, 1)
	again.wantNumbers(t, "behind a crash", 2, 1, 0, 1)
	p.look(t, "the pool that goes on")
}

// P0.3: the disk and the log that are passed to New are shared: what others do to them is seen, and nothing is done to them ahead of a call.
func TestDiskAndLogAreShared(t *testing.T) {
	d := formatted(t, 2)
	l := logOn(t, d)
	p := poolOn(t, d, start, 2, 2, l)
	seen := func(d *disk.Disk) [2]int { return [2]int{d.Pending(), d.Syncs()} }
	before := seen(d)
	if e := slot.Save(d, start, 1, 1, api.Page{Cells: []api.Cell{{Key: "a"}}}); e != api.OK {
		t.Fatalf("Save is %d", e)
	}
	if got := seen(d); got != [2]int{0, before[1] + 1} {
		t.Fatalf("Pending and Syncs are %v", got)
	}
	if e := p.Fetch(1); e != api.OK {
		t.Fatalf("Fetch is %d", e)
	}
	if got, e := p.Page(1); e != api.OK || len(got.Cells) != 1 {
		t.Fatalf("Page is %+v, %d", got, e)
	}
	d.Fuse(0)
	if e := p.Change(1, 1, "a", has("x")); e != api.OK {
		t.Fatalf("Change is %d", e)
	}
	if e := p.Flush(1); e != api.ErrDown || !d.Down() {
		t.Fatalf("Flush is %d, and Down %t", e, d.Down())
	}
}
