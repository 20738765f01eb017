package pool_test

import (
	"slices"
	"testing"

	"troth/api"
	"troth/disk"
	"troth/slot"
)

// P12.1: the chapter's example.
func TestExample(t *testing.T) {
	p := fresh(t, 3, 2)
	p.fetch(t, api.OK, 0, 1)
	p.fetch(t, api.ErrPool, 2)
	p.wantHeld(t, "all are pinned", 0, 1)
	p.unpin(t, api.OK, 0)
	p.fetch(t, api.OK, 2)
	p.wantHeld(t, "page 0 made room", 1, 2)
}

// P12.1 and P12.2: a page that is pinned once, twice, often, and not at all.
func TestPins(t *testing.T) {
	for _, pins := range []int{1, 2, 3, 50} {
		p := fresh(t, 3, 1)
		p.unpin(t, api.ErrPins, 0)
		p.page(t, api.ErrPins, 0)
		p.change(t, api.ErrPins, 0, 1, "a", has("x"))
		p.evict(t, api.OK, 0)
		p.flush(t, api.OK, 0)
		p.wantHeld(t, "never fetched")
		for i := range pins {
			p.fetch(t, api.OK, 0)
			p.wantNumbers(t, "fetched", 0, i+1, 0, 0)
		}
		for i := range pins {
			p.fetch(t, api.ErrPool, 1, 2)
			p.evict(t, api.ErrPins, 0)
			p.page(t, api.OK, 0)
			p.unpin(t, api.ErrPins, 1)
			p.page(t, api.ErrPins, 1)
			p.wantNumbers(t, "pinned", 0, pins-i, 0, 0)
			p.unpin(t, api.OK, 0)
		}
		// The page is in its frame yet, but it is not pinned.
		for range 2 {
			p.wantNumbers(t, "not pinned", 0, 0, 0, 0)
			p.unpin(t, api.ErrPins, 0)
			p.page(t, api.ErrPins, 0)
			p.change(t, api.ErrPins, 0, 1, "a", has("x"))
		}
		p.fetch(t, api.OK, 0)
		p.wantNumbers(t, "fetched again", 0, 1, 0, 0)
		p.unpin(t, api.OK, 0)
		p.evict(t, api.OK, 0)
		p.wantHeld(t, "evicted")
		p.unpin(t, api.ErrPins, 0)
		p.page(t, api.ErrPins, 0)
		p.evict(t, api.OK, 0)
	}
}

// P12.1: the first of Change's errors is ErrPins, whatever else is passed, and ErrPins of Evict comes ahead of writing back.
func TestNotPinnedComesFirst(t *testing.T) {
	p := fresh(t, 2, 2)
	p.fetch(t, api.OK, 1)
	p.set(t, 1, "a", "x")
	p.unpin(t, api.OK, 1)
	for _, n := range []int{0, 1} {
		p.change(t, api.ErrPins, n, 0, "", api.Value{Data: "x"})
		p.change(t, api.ErrPins, n, most+1, "k", has("x"))
	}
	p.fetch(t, api.OK, 1)
	for _, s := range []site{p.one, p.two} {
		fell(t, s.d)
	}
	p.evict(t, api.ErrPins, 1)
	p.page(t, api.OK, 1)
	p.unpin(t, api.OK, 1)
	p.evict(t, api.ErrDown, 1)
	p.page(t, api.ErrPins, 1)
}

// fetched are pages that are fetched, each of which is unpinned then.
func (p *pair) fetched(t *testing.T, l ...int) {
	t.Helper()
	for _, n := range l {
		p.fetch(t, api.OK, n)
		p.unpin(t, api.OK, n)
	}
}

// P12.1: the page that was fetched least recently goes, the others stay.
func TestLeastRecentlyFetched(t *testing.T) {
	for _, c := range []struct {
		fetched []int
		next    int
		want    []int
	}{
		{[]int{0, 1, 2}, 3, []int{1, 2, 3}},
		{[]int{2, 1, 0}, 3, []int{0, 1, 3}},
		{[]int{1, 0, 2}, 3, []int{0, 2, 3}},
		{[]int{0, 1, 2, 0}, 3, []int{0, 2, 3}},
		{[]int{0, 1, 2, 0, 1}, 3, []int{0, 1, 3}},
		{[]int{0, 1, 2, 0, 1, 2}, 3, []int{1, 2, 3}},
		{[]int{0, 1, 2, 2, 2}, 3, []int{1, 2, 3}},
		{[]int{0, 0, 0, 1, 2}, 3, []int{1, 2, 3}},
		{[]int{0, 1, 0, 0, 2}, 3, []int{0, 2, 3}},
		{[]int{0, 1, 2, 3}, 4, []int{2, 3, 4}},
		{[]int{0, 1, 2, 3, 1}, 4, []int{1, 3, 4}},
		{[]int{0, 1, 2, 3, 2, 1}, 0, []int{0, 1, 2}},
		{[]int{0, 1, 2, 0, 3, 0, 4}, 1, []int{0, 1, 4}},
		{[]int{0, 1, 2}, 1, []int{0, 1, 2}},
		{[]int{0, 1}, 4, []int{0, 1, 4}},
		{[]int{4}, 4, []int{4}},
	} {
		p := fresh(t, 5, 3)
		p.fetched(t, c.fetched...)
		p.fetch(t, api.OK, c.next)
		p.wantHeld(t, "room was made", c.want...)
	}
}

// P12.1: it is the last fetch that counts, not the first one, and not when a page was unpinned, looked at, changed, or written back.
func TestOnlyFetchesCount(t *testing.T) {
	p := fresh(t, 4, 3)
	p.fetch(t, api.OK, 0, 1, 2)
	p.unpin(t, api.OK, 2, 1, 0)
	p.fetch(t, api.OK, 3)
	p.wantHeld(t, "unpinned in another order", 1, 2, 3)

	p = fresh(t, 4, 3)
	p.fetch(t, api.OK, 0, 1, 2)
	p.set(t, 0, "a", "x")
	p.page(t, api.OK, 0)
	p.flush(t, api.OK, 0)
	p.unpin(t, api.OK, 1, 2, 0)
	p.evict(t, api.OK, 3)
	p.flush(t, api.OK, 0)
	p.unpin(t, api.ErrPins, 0)
	p.page(t, api.ErrPins, 0)
	p.fetch(t, api.OK, 3)
	p.wantHeld(t, "used behind the fetches", 1, 2, 3)

	p = fresh(t, 5, 3)
	p.fetched(t, 0, 1, 2)
	p.evict(t, api.OK, 0)
	p.fetched(t, 0)
	p.fetch(t, api.OK, 3, 4)
	p.wantHeld(t, "evicted, and fetched again", 0, 3, 4)

	p = fresh(t, 5, 3)
	p.fetch(t, api.OK, 0, 1, 2, 0)
	p.unpin(t, api.OK, 0, 0, 1, 2)
	p.fetch(t, api.OK, 3)
	p.wantHeld(t, "fetched again while it was pinned", 0, 2, 3)

	p = fresh(t, 5, 2)
	p.fetch(t, api.OK, 0, 1)
	p.fetch(t, api.ErrPool, 2, 3)
	p.unpin(t, api.OK, 1, 0)
	p.fetch(t, api.OK, 4)
	p.wantHeld(t, "behind fetches that failed", 1, 4)
}

// P12.1 and P12.2: pages that are pinned stay, however long ago they were fetched; of the others the one that was fetched least recently goes.
func TestPinnedStay(t *testing.T) {
	for pinned := range 1 << 4 {
		p := fresh(t, 5, 4)
		first := -1
		for n := range 4 {
			p.fetch(t, api.OK, n)
			p.set(t, n, "k", "x")
		}
		for n := range 4 {
			if pinned>>n&1 == 0 {
				p.unpin(t, api.OK, n)
				if first < 0 {
					first = n
				}
			}
		}
		if first < 0 {
			p.fetch(t, api.ErrPool, 4)
			p.wantHeld(t, "all are pinned", 0, 1, 2, 3)
			if len(p.one.p.Dirty()) != 4 {
				t.Errorf("a Fetch that fails leaves %v dirty", p.one.p.Dirty())
			}
			continue
		}
		p.fetch(t, api.OK, 4)
		var want []int
		for n := range 5 {
			if n != first {
				want = append(want, n)
			}
		}
		p.wantHeld(t, "some are pinned", want...)
		p.wantSaved(t, "made room", first, 1, first+1)
		if got := len(p.one.p.Dirty()); got != 3 {
			t.Errorf("%d pages are dirty behind a page that made room; want 3", got)
		}
	}
}

// P12.2: a pool of one frame, whose page is pinned or not.
func TestOneFrame(t *testing.T) {
	p := fresh(t, 64, 1)
	for n := range 64 {
		p.fetch(t, api.OK, n)
		p.wantHeld(t, "one frame", n)
		p.fetch(t, api.ErrPool, (n+1)%64, (n+63)%64)
		p.fetch(t, api.OK, n)
		p.set(t, n, "k", "x")
		p.unpin(t, api.OK, n)
		p.fetch(t, api.ErrPool, (n+1)%64)
		p.unpin(t, api.OK, n)
	}
}

// P12.2: with as many frames as pages, or more, no page ever goes.
func TestFramesForAll(t *testing.T) {
	for _, c := range [][2]int{{64, 64}, {1, 1}, {1, 64}, {5, 64}, {7, 7}, {63, 64}} {
		p := fresh(t, c[0], c[1])
		for i := range 3 * c[0] {
			n := i * 11 % c[0]
			p.fetch(t, api.OK, n)
			if i%3 > 0 {
				p.unpin(t, api.OK, n)
			}
		}
		p.fetch(t, api.OK, upTo(c[0])...)
		p.wantHeld(t, "frames for all", upTo(c[0])...)
		for _, f := range p.one.p.Frames() {
			p.unpin(t, api.OK, slices.Repeat([]int{f.No}, f.Pins)...)
			p.evict(t, api.OK, f.No)
			p.fetch(t, api.OK, f.No)
		}
		p.fetch(t, api.OK, upTo(c[0])...)
		p.wantHeld(t, "frames for all, each of which was free once", upTo(c[0])...)
	}
}

// P12.2: 64 pages and 63 frames: when all are full and pinned there is none for the last page.
func TestOneFrameLess(t *testing.T) {
	p := fresh(t, 64, 63)
	p.fetch(t, api.OK, upTo(63)...)
	p.fetch(t, api.ErrPool, 63)
	p.unpin(t, api.OK, 40)
	p.fetch(t, api.OK, 63)
	p.fetch(t, api.ErrPool, 40)
	p.unpin(t, api.OK, 3)
	p.evict(t, api.OK, 3)
	p.fetch(t, api.OK, 40)
	p.fetch(t, api.ErrPool, 3)
	if got := len(p.one.p.Frames()); got != 63 {
		t.Errorf("there are %d frames; want 63", got)
	}
}

// P12.1: a frame that Evict took is free for any page, without another one going.
func TestEvictFreesAFrame(t *testing.T) {
	p := fresh(t, 5, 3)
	p.fetched(t, 0, 1, 2)
	p.evict(t, api.OK, 1)
	p.wantHeld(t, "evicted", 0, 2)
	p.fetch(t, api.OK, 4)
	p.wantHeld(t, "another page in its frame", 0, 2, 4)
	p.fetch(t, api.OK, 1)
	p.wantHeld(t, "no frame was free any more", 1, 2, 4)
	p.evict(t, api.OK, 0, 3)
	p.evict(t, api.OK, 2)
	p.evict(t, api.ErrPins, 1, 4)
	p.wantHeld(t, "those that are pinned", 1, 4)
}

// P12.1: the page that makes room is removed, also if the one that is fetched can't be loaded then; no frame is occupied by that one.
func TestPageThatCannotBeLoaded(t *testing.T) {
	for _, dirty := range []bool{false, true} {
		logs := formatted(t, 1)
		l := logOn(t, logs)
		d := made(t, 2*2)
		p := poolOn(t, d, 0, 64, 2, l)
		ok := func(what string, got, want api.Errno) {
			t.Helper()
			if got != want {
				t.Fatalf("%s is %d; want %d", what, got, want)
			}
		}
		ok("Fetch beyond the disk", p.Fetch(2), api.ErrArg)
		ok("Fetch beyond the disk", p.Fetch(63), api.ErrArg)
		if got := p.Frames(); len(got) != 0 {
			t.Fatalf("behind Fetch of pages beyond the disk, there are the frames %v", got)
		}
		ok("Fetch", p.Fetch(0), api.OK)
		ok("Fetch", p.Fetch(1), api.OK)
		ok("Fetch beyond the disk with all frames pinned", p.Fetch(2), api.ErrPool)
		if dirty {
			ok("Change", p.Change(0, 1, "a", has("x")), api.OK)
		}
		ok("Unpin", p.Unpin(0), api.OK)
		ok("Fetch beyond the disk", p.Fetch(2), api.ErrArg)
		if got := p.Frames(); len(got) != 1 || got[0].No != 1 || got[0].Pins != 1 {
			t.Fatalf("behind a Fetch that made room, there are the frames %v", got)
		}
		ok("Fetch beyond the disk, with a frame free", p.Fetch(3), api.ErrArg)
		ok("Unpin", p.Unpin(2), api.ErrPins)
		ok("Fetch", p.Fetch(0), api.OK)
		got, e := p.Page(0)
		if want := map[bool]int{true: 1}[dirty]; e != api.OK || got.Lsn != want || len(got.Cells) != want {
			t.Errorf("the page that had made room is %+v, %d", got, e)
		}
	}
}

// P12.1: of a page whose odd sector lies beyond the disk nothing is loaded.
func TestHalfBeyondTheDisk(t *testing.T) {
	l := logOn(t, formatted(t, 1))
	p := poolOn(t, made(t, 3), 0, 2, 2, l)
	if e := p.Fetch(1); e != api.ErrArg || len(p.Frames()) != 0 {
		t.Errorf("Fetch is %d, with the frames %v", e, p.Frames())
	}
	if e := p.Fetch(0); e != api.OK || len(p.Frames()) != 1 {
		t.Errorf("Fetch is %d, with the frames %v", e, p.Frames())
	}
}

// P12.1: pages that the disk has already are fetched as they are there, with their turns; they are clean.
func TestPagesOfTheDisk(t *testing.T) {
	d := formatted(t, 3)
	want := api.Page{Lsn: 0, Cells: []api.Cell{{Key: "a", Val: has("x")}, {Key: "b"}}}
	for turn := 1; turn <= 5; turn++ {
		if e := slot.Save(d, start, 1, turn, api.Page{}); e != api.OK {
			t.Fatalf("Save is %d", e)
		}
	}
	if e := slot.Save(d, start, 1, 6, want); e != api.OK {
		t.Fatalf("Save is %d", e)
	}
	p := open(t, d, 3, 3)
	p.fetch(t, api.OK, 0, 1, 2)
	p.wantNumbers(t, "saved six times", 1, 1, 0, 6)
	p.wantNumbers(t, "never saved", 0, 1, 0, 0)
	if got, e := p.one.p.Page(1); e != api.OK || !samePage(got, want) {
		t.Errorf("Page is %+v, %d; want %+v", got, e, want)
	}
	lsn := p.set(t, 1, "c", "y")
	p.flush(t, api.OK, 1)
	p.wantSaved(t, "written back", 1, 7, lsn)
}

// P12.1: a page that is in a frame is pinned, looked at and changed on a disk that is down as on any other.
func TestPagesInFramesNeedNoDisk(t *testing.T) {
	p := fresh(t, 3, 2)
	p.fetch(t, api.OK, 0, 1)
	p.set(t, 0, "a", "x")
	for _, d := range []*disk.Disk{p.one.d, p.two.d} {
		fell(t, d)
	}
	p.fetch(t, api.OK, 0, 1, 0)
	p.unpin(t, api.OK, 0, 0)
	p.page(t, api.OK, 0, 1)
	p.set(t, 0, "b", "y")
	p.change(t, api.ErrArg, 0, 0, "b", has("y"))
	p.flush(t, api.OK, 1, 2)
	p.unpin(t, api.OK, 1, 1)
	p.wantNumbers(t, "a disk that is down", 0, 1, 1, 0)
	p.evict(t, api.OK, 1)
	p.fetch(t, api.ErrDown, 2, 1)
	p.wantHeld(t, "a disk that is down", 0)
	p.flush(t, api.ErrDown, 0)
	p.unpin(t, api.OK, 0)
	p.evict(t, api.ErrDown, 0)
	p.wantHeld(t, "a disk that is down", 0)
}
