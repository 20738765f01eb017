package pool_test

import (
	"math"
	"slices"
	"strings"
	"testing"

	"troth/api"
	"troth/disk"
)

// shape is how a site is set; its disk has room for so many pages.
type shape struct{ base, pages, frames, room int }

// maker makes a pool, or the model of one, over the disk and the log of a site.
type maker func(t *testing.T, s site, sh shape) buffer

func built(t *testing.T, s site, sh shape) buffer {
	t.Helper()
	return poolOn(t, s.d, sh.base, sh.pages, sh.frames, s.l)
}

func modelled(t *testing.T, s site, sh shape) buffer {
	return &model{d: s.d, base: sh.base, pages: sh.pages, frames: sh.frames, log: s.l}
}

// over is a site on a disk.
func (m maker) over(t *testing.T, d *disk.Disk, sh shape) site {
	t.Helper()
	s := site{d: d, l: logOn(t, d)}
	s.p = m(t, s, sh)
	return s
}

// outcome is what a call answers, and what is seen behind it.
type outcome struct {
	e    api.Errno
	page api.Page
	lsn  int
	seen seen
}

func (a outcome) same(b outcome) bool {
	return a.e == b.e && samePage(a.page, b.page) && a.lsn == b.lsn && a.seen.same(b.seen)
}

// page is a page's number, most often one that is in a frame or one of the others.
func (r *draw) page(p buffer, sh shape) int {
	if r.below(30) == 0 {
		return pick(r, notPages(sh.pages))
	}
	if l := p.Frames(); len(l) > 0 && r.below(2) == 0 {
		return pick(r, l).No
	}
	return r.below(min(sh.pages, sh.room+1))
}

// change is the arguments of a Change, most often those that may be.
func (r *draw) change(l int) (int, string, api.Value) {
	lsn, key, v := l, pick(r, []string{"a", "b", "c", "d", "e", strings.Repeat("k", 16)}), r.value()
	if r.below(12) == 0 {
		lsn = pick(r, []int{0, 1, -1, l + 1, l - 1, most, most + 1, math.MinInt, math.MaxInt})
	}
	switch r.below(40) {
	case 0:
		key = pick(r, []string{"", strings.Repeat("k", 17), strings.Repeat("k", 300)})
	case 1:
		v = pick(r, []api.Value{{Data: "x"}, has(strings.Repeat("v", 33)), has(strings.Repeat("v", 300))})
	}
	return lsn, key, v
}

// act is a call of any kind with any arguments, and its outcome.
func (s *site) act(t *testing.T, m maker, r *draw, sh shape) outcome {
	t.Helper()
	var o outcome
	n := r.page(s.p, sh)
	switch r.below(16) {
	case 0, 1, 2:
		o.e = s.p.Fetch(n)
	case 3, 4:
		o.e = s.p.Unpin(n)
	case 5, 6, 7, 8:
		o.lsn, _ = s.l.Append(api.Rec{Kind: api.RecForget, Tx: 3}, 0)
		lsn, key, v := r.change(max(o.lsn, 1))
		o.e = s.p.Change(n, lsn, key, v)
	case 9:
		o.e = s.p.Flush(n)
	case 10:
		o.e = s.p.Evict(n)
	case 11, 12:
		o.page, o.e = s.p.Page(n)
	case 13:
		o.e = s.l.Force()
		if s.l.Room() < ring/2 {
			o.e = s.l.Mark(0, s.l.Forced())
		}
	case 14:
		if r.below(4) == 0 {
			s.d.Fuse(r.below(25) - 2)
		}
	default:
		if s.d.Down() || r.below(8) == 0 {
			*s = m.over(t, s.d.Crash(r.crash(s.d.Pending())), sh)
		}
	}
	o.seen = s.seen()
	return o
}

// wantAlike fails if a row of calls has other outcomes for pools of one maker than for those of another one, or leaves other sectors.
func wantAlike(t *testing.T, sh shape, one, two maker) {
	t.Helper()
	d := formatted(t, sh.room)
	a, b := one.over(t, d.Crash(api.Crash{}), sh), two.over(t, d.Crash(api.Crash{}), sh)
	var r, s draw
	changed := 0
	for i := range 4000 {
		x, y := a.act(t, one, &r, sh), b.act(t, two, &s, sh)
		if !x.same(y) {
			t.Fatalf("with %+v, call %d has the outcomes %+v and %+v", sh, i, x, y)
		}
		if x.e != api.OK && !samePage(x.page, api.Page{}) {
			t.Fatalf("with %+v, call %d fails with %d, and %+v beside it", sh, i, x.e, x.page)
		}
		if i%50 == 0 && !alike(image(t, a.d), image(t, b.d)) {
			t.Fatalf("with %+v, the disks differ behind call %d", sh, i)
		}
		if len(x.page.Cells) > 0 {
			changed++
		}
	}
	if sh.room > 1 && changed < 100 {
		t.Errorf("with %+v, only %d calls see a page that was changed", sh, changed)
	}
}

// shapes are pools of all kinds, some over disks that do not have all of their pages.
var shapes = []shape{{start, 1, 1, 1}, {start, 2, 1, 2}, {start, 3, 2, 3}, {start, 5, 3, 5}, {start, 8, 8, 8}, {start, 6, 2, 4}, {start + 1, 3, 2, 3}, {start + 2, 2, 64, 9}, {start, 64, 64, 64}, {start, 64, 5, 64}, {start, 64, 1, 3}}

// P12.1 to P12.4 and P0.1: whatever is passed, nothing panics, and all calls do what the chapter has.
func TestCallsOfTheModel(t *testing.T) {
	t.Parallel()
	for _, sh := range shapes {
		wantAlike(t, sh, built, modelled)
	}
}

// P0.5: the same calls have the same outcomes.
func TestSameCallsSameResults(t *testing.T) {
	t.Parallel()
	for _, sh := range shapes {
		wantAlike(t, sh, built, built)
	}
}

// P12.1: all sequences of four calls for three pages in two frames: empty ones, ones whose pages were changed, and ones whose pages are pinned yet.
func TestAllSequencesOfCalls(t *testing.T) {
	t.Parallel()
	moves := []func(b buffer, lsn int) api.Errno{
		func(b buffer, lsn int) api.Errno { return b.Change(0, lsn, "k", has("x")) },
		func(b buffer, lsn int) api.Errno { return b.Change(1, lsn, "k", has("y")) },
		func(b buffer, lsn int) api.Errno { return b.Flush(0) },
	}
	for n := range 3 {
		moves = append(moves,
			func(b buffer, lsn int) api.Errno { return b.Fetch(n) },
			func(b buffer, lsn int) api.Errno { return b.Unpin(n) },
			func(b buffer, lsn int) api.Errno { return b.Evict(n) })
	}
	base := formatted(t, 3)
	sh := shape{start, 3, 2, 3}
	run := func(sequence []int) {
		a, b := maker(built).over(t, base.Crash(api.Crash{}), sh), maker(modelled).over(t, base.Crash(api.Crash{}), sh)
		for i, move := range sequence {
			for _, s := range []site{a, b} {
				if _, e := s.l.Append(api.Rec{Kind: api.RecBegin}, 0); e != api.OK {
					t.Fatalf("Append is %d", e)
				}
			}
			x, y := outcome{e: moves[move](a.p, i+1)}, outcome{e: moves[move](b.p, i+1)}
			x.seen, y.seen = a.seen(), b.seen()
			if !x.same(y) {
				t.Fatalf("behind the calls %v, the outcomes are %+v and %+v", sequence[:i+1], x, y)
			}
		}
	}
	for _, ahead := range [][]int{nil, {3, 0, 4, 6, 1, 7}, {3, 0, 6, 1}} {
		var follow func(sequence []int, deep int)
		follow = func(sequence []int, deep int) {
			if deep == 0 {
				run(sequence)
				return
			}
			for move := range moves {
				follow(append(slices.Clone(sequence), move), deep-1)
			}
		}
		follow(ahead, 4)
	}
}

// P0.5: which page makes room does not hang on the order in which a map is gone through.
func TestRoomIsMadeAlike(t *testing.T) {
	t.Parallel()
	for range 20 {
		p := fresh(t, 64, 40)
		for i := range 40 {
			p.fetched(t, i*7%64)
		}
		for i := range 24 {
			p.fetched(t, (i+40)*7%64)
		}
	}
}
