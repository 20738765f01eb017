package pool_test

import (
	"math"
	"slices"
	"testing"

	"troth/api"
	"troth/disk"
	"troth/pool"
	"troth/slot"
	"troth/wal"
)

// counts are what a number of pages or of frames may be, and notCounts what it may not.
var (
	counts    = []int{1, 2, 3, 32, 63, 64}
	notCounts = []int{0, -1, 65, 66, -64, 128, 1<<32 + 1, 1 << 62, math.MinInt, math.MinInt + 1, math.MaxInt - 1, math.MaxInt}
	bases     = []int{0, 1, 2, 66, 4095, 4096}
	notBases  = []int{-1, 4097, -2, -4096, 8192, 1 << 32, 1 << 62, -1 << 62, math.MinInt, math.MaxInt}
)

// wantNotNew fails if New is another error, or a pool beside it.
func wantNotNew(t *testing.T, d *disk.Disk, base, pages, frames int, l *wal.Log, want api.Errno) {
	t.Helper()
	if p, e := pool.New(d, base, pages, frames, l); p != nil || e != want {
		t.Errorf("New(%p, %d, %d, %d, %p) is %v, %d; want nil, %d", d, base, pages, frames, l, p, e, want)
	}
}

// P12.1: the edges of New's numbers; the pool that it returns is empty, and nothing is written.
func TestNew(t *testing.T) {
	d := formatted(t, 4)
	l := logOn(t, d)
	before, syncs := image(t, d), d.Syncs()
	for _, pages := range counts {
		for _, frames := range counts {
			for _, base := range bases {
				p := poolOn(t, d, base, pages, frames, l)
				if got, dirty := p.Frames(), p.Dirty(); len(got) != 0 || len(dirty) != 0 {
					t.Errorf("a new pool has the frames %v, of which %v are dirty", got, dirty)
				}
			}
		}
	}
	if !alike(image(t, d), before) || d.Pending() != 0 || d.Syncs() != syncs || l.Forces() != 0 {
		t.Errorf("New writes something")
	}
}

// P12.1: numbers that may not be, one at a time and with others; a nil disk and a nil log come first.
func TestNewOfWrongNumbers(t *testing.T) {
	d := formatted(t, 4)
	l := logOn(t, d)
	wrong := func(base, pages, frames int) {
		t.Helper()
		wantNotNew(t, d, base, pages, frames, l, api.ErrArg)
		wantNotNew(t, nil, base, pages, frames, l, api.ErrNil)
		wantNotNew(t, d, base, pages, frames, nil, api.ErrNil)
		wantNotNew(t, nil, base, pages, frames, nil, api.ErrNil)
	}
	for _, bad := range notCounts {
		for _, good := range counts {
			for _, base := range bases {
				wrong(base, bad, good)
				wrong(base, good, bad)
			}
			wrong(-1, bad, good)
			wrong(4097, good, bad)
		}
		wrong(0, bad, bad)
	}
	for _, bad := range notBases {
		for _, good := range counts {
			wrong(bad, good, good)
		}
	}
	wantNotNew(t, nil, 0, 1, 1, l, api.ErrNil)
	wantNotNew(t, d, 0, 1, 1, nil, api.ErrNil)
	wantNotNew(t, nil, 0, 1, 1, nil, api.ErrNil)
}

// P12.1: a disk or a log that is down, and a disk that is too short, do not keep New from returning a pool.
func TestNewOfWhatIsDown(t *testing.T) {
	d := fell(t, formatted(t, 2))
	other := formatted(t, 2)
	l := logOn(t, other)
	p := poolOn(t, d, start, 2, 2, l)
	if e := p.Fetch(0); e != api.ErrDown || len(p.Frames()) != 0 {
		t.Errorf("Fetch from a disk that is down is %d, with the frames %v", e, p.Frames())
	}
	short := made(t, 1)
	p = poolOn(t, short, 4096, 64, 64, l)
	if e := p.Fetch(0); e != api.ErrArg || len(p.Frames()) != 0 {
		t.Errorf("Fetch from beyond a disk is %d, with the frames %v", e, p.Frames())
	}
	if _, e := l.Append(api.Rec{Kind: api.RecBegin}, 0); e != api.OK {
		t.Fatalf("Append fails with %d", e)
	}
	fell(t, other)
	if e := l.Force(); e != api.ErrDown {
		t.Fatalf("Force is %d; want ErrDown", e)
	}
	p = poolOn(t, formatted(t, 2), start, 2, 2, l)
	if e := p.Fetch(1); e != api.OK || len(p.Frames()) != 1 {
		t.Errorf("Fetch beside a log that is down is %d, with the frames %v", e, p.Frames())
	}
}

// calls are those of the methods that have a page's number.
func calls() map[string]func(p buffer, n int) api.Errno {
	m := map[string]func(p buffer, n int) api.Errno{"Fetch": buffer.Fetch, "Unpin": buffer.Unpin, "Flush": buffer.Flush, "Evict": buffer.Evict}
	m["Page"] = func(p buffer, n int) api.Errno {
		got, e := p.Page(n)
		if e != api.OK && !samePage(got, api.Page{}) {
			return -1
		}
		return e
	}
	m["Change"] = func(p buffer, n int) api.Errno { return p.Change(n, 1, "a", has("x")) }
	m["Change with nothing"] = func(p buffer, n int) api.Errno { return p.Change(n, 0, "", api.Value{Data: "x"}) }
	m["Change with too much"] = func(p buffer, n int) api.Errno { return p.Change(n, math.MaxInt, "e", has("x")) }
	return m
}

// notPages are numbers that no page has, in a pool of so many pages.
func notPages(pages int) []int {
	return []int{-1, pages, pages + 1, -2, -pages, 64, 65, 1 << 32, 1 << 62, math.MinInt, math.MinInt + 1, math.MaxInt - 1, math.MaxInt}
}

// wantRefused fails if a method is another error than ErrArg for the number of no page, or changes something.
func wantRefused(t *testing.T, what string, s site, pages int) {
	t.Helper()
	before, left := s.seen(), image(t, s.d)
	for name, call := range calls() {
		for _, n := range notPages(pages) {
			if e := call(s.p, n); e != api.ErrArg {
				t.Errorf("%s: %s of page %d is %d; want ErrArg", what, name, n, e)
			}
		}
	}
	if after := s.seen(); !after.same(before) || !alike(image(t, s.d), left) {
		t.Errorf("%s: calls that are refused leave %+v; want %+v", what, after, before)
	}
}

// P12.1: numbers that no page has are ErrArg, ahead of all other errors.
func TestPageNumbers(t *testing.T) {
	for _, pages := range []int{1, 2, 5, 63, 64} {
		for _, frames := range []int{1, 2, 64} {
			p := fresh(t, pages, frames)
			wantRefused(t, "an empty pool", p.one, pages)
			for n := range min(pages, frames) {
				p.fetch(t, api.OK, n)
				p.set(t, n, "a", "x")
			}
			wantRefused(t, "a pool whose frames are pinned", p.one, pages)
			p.unpin(t, api.OK, upTo(min(pages, frames))...)
			wantRefused(t, "a pool whose frames are not pinned", p.one, pages)
			fell(t, p.one.d)
			wantRefused(t, "a disk that is down", p.one, pages)
			p.one.l.Force()
			wantRefused(t, "a log that is down", p.one, pages)
		}
	}
}

// P12.1: the first page and the last one are pages like all others.
func TestFirstAndLastPage(t *testing.T) {
	for _, pages := range counts {
		for _, frames := range counts {
			p := fresh(t, pages, frames)
			for before, n := range []int{0, pages - 1} {
				if n > 0 {
					before = 0
				}
				p.fetch(t, api.OK, n)
				lsn := p.set(t, n, "k", "x")
				p.page(t, api.OK, n)
				p.unpin(t, api.OK, n)
				p.flush(t, api.OK, n)
				p.wantSaved(t, "written back", n, 1+before, lsn)
				p.evict(t, api.OK, n)
				p.wantHeld(t, "evicted")
			}
		}
	}
}

// P12.1: the sectors of a page are those that layer 11 says, for bases and pages at the edges.
func TestBases(t *testing.T) {
	logs := formatted(t, 1)
	l := logOn(t, logs)
	for _, c := range []struct{ base, pages, n int }{{0, 1, 0}, {0, 64, 63}, {1, 64, 0}, {3, 2, 1}, {4094, 1, 0}, {4094, 64, 0}, {3968, 64, 63}} {
		d := made(t, places)
		p := poolOn(t, d, c.base, c.pages, 1, l)
		if e := p.Fetch(c.n); e != api.OK {
			t.Fatalf("Fetch(%d) with base %d is %d", c.n, c.base, e)
		}
		if e := p.Change(c.n, 1, "a", has("x")); e != api.OK {
			t.Fatalf("Change is %d", e)
		}
		before := image(t, d)
		if e := p.Flush(c.n); e != api.OK {
			t.Fatalf("Flush is %d", e)
		}
		after := image(t, d)
		for n := range after {
			if changed := !slices.Equal(before[n], after[n]); changed != (n == c.base+2*c.n+1) {
				t.Errorf("with base %d, the first writing back of page %d changes sector %d: %t", c.base, c.n, n, changed)
			}
		}
		if got, turn, e := slot.Load(d, c.base, c.n); e != api.OK || turn != 1 || got.Lsn != 1 {
			t.Errorf("with base %d, page %d is saved as %+v, %d, %d", c.base, c.n, got, turn, e)
		}
	}
	for _, c := range []struct{ base, n int }{{4095, 0}, {4096, 0}, {3969, 63}, {4093, 1}, {4096, 63}} {
		p := poolOn(t, made(t, places), c.base, 64, 1, l)
		if e := p.Fetch(c.n); e != api.ErrArg || len(p.Frames()) != 0 {
			t.Errorf("Fetch(%d) with base %d is %d, with the frames %v; want ErrArg, none", c.n, c.base, e, p.Frames())
		}
	}
}

// P12.1 and P0.1: a nil pool, whatever is passed.
func TestNilPool(t *testing.T) {
	var p *pool.Pool
	for name, call := range calls() {
		for _, n := range append(notPages(3), 0, 1, 2, 63) {
			if e := call(p, n); e != api.ErrNil {
				t.Errorf("%s(%d) of a nil pool is %d; want ErrNil", name, n, e)
			}
		}
	}
	if l := p.Dirty(); len(l) != 0 {
		t.Errorf("Dirty of a nil pool is %v", l)
	}
	if l := p.Frames(); len(l) != 0 {
		t.Errorf("Frames of a nil pool is %v", l)
	}
}
