package pool_test

import (
	"math"
	"slices"
	"testing"

	"troth/api"
)

// cuts are of all kinds, and around both ends of a sector and of the numbers in it.
var cuts = []int{math.MinInt, 0, 1, 2, 3, 12, 13, 14, 100, 254, 255, 256, math.MaxInt}

// allCuts are at each byte of a sector, and beyond both ends.
func allCuts() []int {
	var l []int
	for cut := -1; cut <= api.SectorBytes+1; cut++ {
		l = append(l, cut)
	}
	return l
}

// crashes are those that some pending writes may meet: any of them are kept, and the last one is torn at one of these places, or not at all.
func crashes(pending int, cuts []int) []api.Crash {
	var l []api.Crash
	for mask := range 1 << pending {
		var keep []int
		for i := range pending {
			if mask>>i&1 == 1 {
				keep = append(keep, i)
			}
		}
		l = append(l, api.Crash{Keep: keep})
		for _, cut := range cuts {
			l = append(l, api.Crash{Keep: keep, Torn: true, Cut: cut})
		}
	}
	return l
}

// scene is a life of three pages and two frames, in which page 0 is dirty and not pinned, and page 1 is pinned. It takes so many steps to write page 0 back.
type scene struct {
	name  string
	make  func(t *testing.T) *life
	steps int
}

// scenes are lives whose page was never written, once, or often, with records that wait for being forced, or none.
func scenes() []scene {
	begin := func(t *testing.T) *life {
		t.Helper()
		f := born(t, 3, 2)
		f.ok(t, "Fetch", f.p.Fetch(1))
		return f
	}
	written := func(t *testing.T, times int) *life {
		t.Helper()
		f := begin(t)
		for range times {
			f.sets(t, 0, 2)
			f.ok(t, "Flush", f.p.Flush(0))
		}
		return f
	}
	return []scene{
		{"never written", func(t *testing.T) *life {
			f := begin(t)
			f.sets(t, 0, 1)
			return f
		}, 4},
		{"written once", func(t *testing.T) *life {
			f := written(t, 1)
			f.sets(t, 0, 3)
			return f
		}, 4},
		{"written often, evicted and fetched again", func(t *testing.T) *life {
			f := written(t, 4)
			f.ok(t, "Evict", f.p.Evict(0))
			f.sets(t, 0, 3)
			return f
		}, 4},
		{"forced, and never written", func(t *testing.T) *life {
			f := begin(t)
			f.sets(t, 0, 2)
			f.ok(t, "Force", f.l.Force())
			f.look(t, "Force")
			return f
		}, 2},
		{"forced, and written twice", func(t *testing.T) *life {
			f := written(t, 2)
			f.sets(t, 0, 2)
			f.ok(t, "Force", f.l.Force())
			f.set(t, 1, 2, has("of another page"))
			f.look(t, "Force")
			return f
		}, 2},
		{"many records", func(t *testing.T) *life {
			f := written(t, 3)
			f.sets(t, 0, 9)
			f.set(t, 1, 3, has("of another page"))
			f.sets(t, 0, 1)
			return f
		}, 5},
		{"records behind those of the page", func(t *testing.T) *life {
			f := written(t, 1)
			f.sets(t, 0, 4)
			f.set(t, 1, 0, has("of another page"))
			f.set(t, 1, 1, has("and again"))
			return f
		}, 4},
		{"behind a crash", func(t *testing.T) *life {
			f := written(t, 3)
			f.sets(t, 0, 2)
			f.ok(t, "Force", f.l.Force())
			f.look(t, "Force")
			f = f.survived(t, "a scene", f.d.Crash(api.Crash{}))
			for n := range f.pages {
				f.ok(t, "Evict", f.p.Evict(n))
			}
			f.ok(t, "Fetch", f.p.Fetch(1))
			f.sets(t, 0, 1)
			return f
		}, 4},
	}
}

// cutShort writes page 0 back on a disk whose power fails behind so many steps, fewer than that takes, and fails if something of a frame is lost then.
func (f *life) cutShort(t *testing.T, what string, w way, fuse int) {
	t.Helper()
	frames, dirty := f.p.Frames(), f.p.Dirty()
	f.d.Fuse(fuse)
	for range 3 {
		if e := w.call(f.p); e != api.ErrDown || !f.d.Down() {
			t.Fatalf("%s: %s with a fuse of %d is %d, and Down %t; want ErrDown, true", what, w.name, fuse, e, f.d.Down())
		}
		if got := f.p.Frames(); !sameFrames(got, frames) || !slices.Equal(f.p.Dirty(), dirty) {
			t.Fatalf("%s: %s with a fuse of %d leaves the frames %+v, of which %v are dirty; want %+v", what, w.name, fuse, got, f.p.Dirty(), frames)
		}
	}
	for n := range 2 {
		f.ok(t, "Fetch", f.p.Fetch(n))
		if p, e := f.p.Page(n); e != api.OK || !samePage(p, f.last(n)) {
			t.Fatalf("%s: behind %s with a fuse of %d, page %d is %+v, %d; want %+v", what, w.name, fuse, n, p, e, f.last(n))
		}
		f.ok(t, "Unpin", f.p.Unpin(n))
	}
}

// P12.1, P12.3 and P12.4: the power fails at each step of each way of writing back, and writes are kept, lost and torn in every way. Nothing of the frame is lost, the page is not ahead of the log, and the records make of it what they did.
func TestPowerFails(t *testing.T) {
	t.Parallel()
	for _, s := range scenes() {
		for _, w := range ways {
			for fuse := range s.steps {
				f := s.make(t)
				f.cutShort(t, s.name, w, fuse)
				for _, c := range crashes(f.d.Pending(), cuts) {
					left := f.survived(t, s.name, f.d.Crash(c))
					left.sets(t, 0, 2)
					left.ok(t, "Flush", left.p.Flush(0))
					left.sets(t, 2, 1)
					left.wantAll(t, s.name)
				}
			}
		}
	}
}

// P12.1: a scene takes as many steps as it says, and no more; behind them the page is there, whatever a crash does.
func TestPowerFailsBehindTheLastStep(t *testing.T) {
	for _, s := range scenes() {
		for _, w := range ways {
			f := s.make(t)
			lsn := f.last(0).Lsn
			f.d.Fuse(s.steps)
			f.ok(t, w.name, w.call(f.p))
			f.look(t, w.name)
			if f.saved[0] != lsn || f.d.Down() || f.d.Pending() != 0 {
				t.Fatalf("%s: behind %s, the page on the disk has the Lsn %d; want %d", s.name, w.name, f.saved[0], lsn)
			}
			for _, c := range crashes(0, cuts) {
				f.survived(t, s.name, f.d.Crash(c))
			}
			fell(t, f.d)
			f.survived(t, s.name, f.d.Crash(api.Crash{}))
		}
	}
}

// P12.3 and P12.4: the write of the page is torn at each byte, and so is the first one of the log.
func TestTornAtEachByte(t *testing.T) {
	t.Parallel()
	for _, s := range scenes() {
		for _, fuse := range []int{1, s.steps - 1} {
			f := s.make(t)
			f.cutShort(t, s.name, ways[0], fuse)
			for _, c := range crashes(f.d.Pending(), allCuts()) {
				f.survived(t, s.name, f.d.Crash(c))
			}
		}
	}
}

// P12.4: writing back is cut short again and again, in every way, with the same changes that the records make in between.
func TestCutShortAgainAndAgain(t *testing.T) {
	t.Parallel()
	for _, s := range scenes() {
		for _, w := range ways[:2] {
			f := s.make(t)
			for i := range 60 {
				f.cutShort(t, s.name, w, f.steps(t)-1-i%2)
				c := api.Crash{Keep: []int{i % 3}, Torn: i%4 > 0, Cut: i * 53 % 258}
				f = f.survived(t, s.name, f.d.Crash(c))
				f.sets(t, 0, 1+i%3)
				f.ok(t, "Evict", f.p.Evict(2))
				f.ok(t, "Fetch", f.p.Fetch(1))
				if f.l.Room() < 8 {
					break
				}
			}
		}
	}
}

// steps is how many it takes to write back page 0.
func (f *life) steps(t *testing.T) int {
	t.Helper()
	for _, d := range f.p.Dirty() {
		if d.Page == 0 {
			steps := 2
			if f.last(0).Lsn > f.l.Forced() {
				steps += 1 + f.waiting(t)
			}
			return steps
		}
	}
	t.Fatalf("page 0 is clean")
	return 0
}

// waiting is how many sheets the records need that were not forced.
func (f *life) waiting(t *testing.T) int {
	t.Helper()
	left := logOn(t, f.d.Crash(api.Crash{}))
	return f.l.Used() - left.Used()
}

// P12.2, P12.3 and P12.4: long lives of all calls, with the power failing anywhere in them, and crashes of all kinds.
func TestLongLives(t *testing.T) {
	t.Parallel()
	for seed := range 8 {
		r := draw(seed * 7919)
		pages := 1 + r.below(8)
		f := born(t, pages, 1+r.below(pages))
		falls := 0
		for range 400 {
			f = f.live(t, &r)
			falls++
		}
		if f.l.Inc() < falls {
			t.Errorf("the log was opened %d times behind %d falls", f.l.Inc(), falls)
		}
	}
}

// live is what becomes of a life until its power fails or somebody lets it crash.
func (f *life) live(t *testing.T, r *draw) *life {
	t.Helper()
	f.trim(t)
	pins := make([]int, f.pages)
	if r.below(4) > 0 {
		f.d.Fuse(r.below(40))
	}
	for range 5 + r.below(40) {
		f.step(t, r, pins)
		if f.d.Down() {
			break
		}
		f.look(t, "a life")
		for _, fr := range f.p.Frames() {
			if fr.Pins != pins[fr.No] {
				t.Fatalf("a frame is %+v; want %d pins", fr, pins[fr.No])
			}
		}
	}
	return f.survived(t, "a life", f.d.Crash(r.crash(f.d.Pending())))
}

// step is a call for a page, and what it should answer.
func (f *life) step(t *testing.T, r *draw, pins []int) {
	t.Helper()
	n := r.below(f.pages)
	held := f.p.Frames()
	pinned := 0
	for _, fr := range held {
		pinned += min(1, fr.Pins)
	}
	in := slices.ContainsFunc(held, func(fr api.Frame) bool { return fr.No == n })
	want, got := api.OK, api.OK
	switch r.below(8) {
	case 0, 1, 2:
		if !in && pinned == f.frames {
			want = api.ErrPool
		}
		if got = f.p.Fetch(n); got == api.OK {
			pins[n]++
		}
	case 3:
		if pins[n] == 0 {
			want = api.ErrPins
		}
		if got = f.p.Unpin(n); got == api.OK {
			pins[n]--
		}
	case 4, 5:
		if pins[n] > 0 && f.l.Room() > 4 {
			f.set(t, n, r.below(4), r.value())
		}
	case 6:
		got = f.p.Flush(n)
	case 7:
		if pins[n] > 0 {
			want = api.ErrPins
		}
		got = f.p.Evict(n)
	}
	if got != want && (got != api.ErrDown || !f.d.Down()) {
		t.Fatalf("a call for page %d with the pins %v is %d; want %d", n, pins, got, want)
	}
}
