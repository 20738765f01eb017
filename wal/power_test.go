package wal_test

import (
	"math"
	"slices"
	"testing"

	"troth/api"
	"troth/disk"
	"troth/master"
	"troth/wal"
)

// cuts are of all kinds, and around both ends of a sector and of the numbers in it.
var cuts = []int{math.MinInt, 0, 1, 2, 6, 11, 12, 13, 14, 100, 254, 255, 256, math.MaxInt}

// crashes are those that some pending writes may meet: any of them are kept, and the last one is torn at one of these places, or not at all.
func crashes(pending int, cuts []int) []api.Crash {
	var l []api.Crash
	for mask := range 1 << pending {
		var keep []int
		for i := range pending {
			if mask>>i&1 == 1 {
				keep = append(keep, i)
			}
		}
		l = append(l, api.Crash{Keep: keep})
		for _, cut := range cuts {
			l = append(l, api.Crash{Keep: keep, Torn: true, Cut: cut})
		}
	}
	return l
}

// wantSurvived opens what a crash left of a log, and fails unless it has all records that were forced, then the first ones of the others, and nothing else. It begins where it did, or where a Mark that was cut short would have let it begin.
func wantSurvived(t *testing.T, what string, left *disk.Disk, was *model, marked ...*model) *pair {
	t.Helper()
	p := open(t, left, was.count)
	place := func(m *model) [2]int { return [2]int{m.first(), m.master.Check} }
	places := [][2]int{place(was)}
	for _, m := range marked {
		places = append(places, place(m))
	}
	if !slices.Contains(places, place(p.m)) || p.l.Last() < was.forced() || p.l.Last() > was.last() {
		t.Fatalf("%s: First, Last and Check are %d, %d, %d; want First and Check of %v, and Last from %d to %d", what, p.l.First(), p.l.Last(), p.l.Check(), places, was.forced(), was.last())
	}
	for lsn := p.l.First(); lsn <= p.l.Last(); lsn++ {
		wantGet(t, what, p.l, lsn, was.bodies[lsn-was.first()])
	}
	return p
}

// wantGoesOn fails if a log that was opened behind a crash does not go on as any other does.
func wantGoesOn(t *testing.T, what string, p *pair) {
	t.Helper()
	if p.l.Room() < 2 {
		return
	}
	for range 2 {
		p.addSizes(t, 30)
		p.force(t)
		p = wantSurvived(t, what+", and another Force", p.d.Crash(api.Crash{}), p.m)
	}
}

// scene is a log that has come some way, and always the same one.
type scene struct {
	name string
	make func(t *testing.T) *pair
}

// scenes are logs that are empty, have records, have gone round their rings, and have sheets behind their ends that crashes left.
func scenes() []scene {
	cut := func(t *testing.T, p *pair, fuse int, keep ...int) *pair {
		t.Helper()
		p.d.Fuse(fuse)
		if e := p.l.Force(); e != api.ErrDown {
			t.Fatalf("Force with a fuse of %d is %d", fuse, e)
		}
		return wantSurvived(t, "a scene", p.d.Crash(api.Crash{Keep: keep}), p.m)
	}
	round := func(t *testing.T, count int) *pair {
		t.Helper()
		p := fresh(t, count)
		for range 5 {
			p.addSizes(t, 200, 300)
			p.force(t)
			p.mark(t, p.l.Last(), p.l.Last())
		}
		return p
	}
	return []scene{
		{"empty", func(t *testing.T) *pair { return fresh(t, 8) }},
		{"records", func(t *testing.T) *pair {
			p := fresh(t, 9)
			p.addSizes(t, 20, 300, 40)
			p.force(t)
			p.addSizes(t, 10)
			p.force(t)
			return p
		}},
		{"gone round", func(t *testing.T) *pair { return round(t, 8) }},
		{"opened again", func(t *testing.T) *pair { return round(t, 9).reopen(t) }},
		{"sheets behind the end", func(t *testing.T) *pair {
			p := fresh(t, 8)
			p.addSizes(t, 236, 236, 236, 236)
			return cut(t, p, 4, 1, 2, 3)
		}},
		{"an incomplete body", func(t *testing.T) *pair {
			p := fresh(t, 8)
			p.addSizes(t, 20, 900)
			return cut(t, p, 4, 0, 1, 3)
		}},
		{"incomplete twice", func(t *testing.T) *pair {
			p := round(t, 13)
			p.addSizes(t, 20, 900)
			p = cut(t, p, 4, 0, 2, 3)
			p.addSizes(t, 500, 236)
			return cut(t, p, 4, 0, 1, 3)
		}},
	}
}

// P9.2: Force is cut short at each write and at the synchronization, and writes are kept, lost and torn in every way. What is left goes on.
func TestPowerFailsInForce(t *testing.T) {
	t.Parallel()
	for _, s := range scenes() {
		for _, sizes := range [][]int{{12}, {236, 5, 231}, {100, 500, 20}, {40, 10, 40, 150, 236}} {
			p := s.make(t)
			p.addSizes(t, sizes...)
			for fuse := range len(p.m.laid()) + 1 {
				p := s.make(t)
				p.addSizes(t, sizes...)
				p.d.Fuse(fuse)
				if e := p.l.Force(); e != api.ErrDown || p.d.Pending() != fuse {
					t.Fatalf("%s: Force with a fuse of %d is %d, with %d writes pending", s.name, fuse, e, p.d.Pending())
				}
				for _, c := range crashes(fuse, cuts) {
					wantGoesOn(t, s.name, wantSurvived(t, s.name, p.d.Crash(c), p.m))
				}
			}
		}
	}
}

// P9.2: the last write of Force is torn at each byte, over sectors that were never written, and over others.
func TestForceTornAtEachByte(t *testing.T) {
	t.Parallel()
	for _, s := range scenes() {
		for fuse := 1; fuse <= 2; fuse++ {
			p := s.make(t)
			p.addSizes(t, 100, 236)
			p.d.Fuse(fuse)
			if e := p.l.Force(); e != api.ErrDown {
				t.Fatalf("Force is %d", e)
			}
			for cut := -1; cut <= 257; cut++ {
				for _, keep := range [][]int{nil, {0}, {1}, {0, 1}} {
					left := p.d.Crash(api.Crash{Keep: keep, Torn: true, Cut: cut})
					wantSurvived(t, s.name, left, p.m)
				}
			}
		}
	}
}

// P9.2: a Force that returned OK is there whatever a crash does, and so it is behind records that were not forced.
func TestCrashBehindForce(t *testing.T) {
	for _, s := range scenes() {
		p := s.make(t)
		p.addSizes(t, 100, 236, 1)
		p.force(t)
		p.addSizes(t, 20, 300)
		for _, c := range crashes(2, cuts) {
			again := wantSurvived(t, s.name, p.d.Crash(c), p.m)
			if again.l.Last() != p.m.forced() {
				t.Fatalf("%s: Last is %d; want %d: nothing else was written", s.name, again.l.Last(), p.m.forced())
			}
		}
	}
}

// P9.2: Mark is cut short at its write and at its synchronization, and the write is kept, lost, or torn at each byte.
func TestPowerFailsInMark(t *testing.T) {
	t.Parallel()
	var everywhere []int
	for cut := -1; cut <= 257; cut++ {
		everywhere = append(everywhere, cut)
	}
	for i, s := range scenes() {
		// Where exactly it is torn does not hang on what the log has.
		cuts := cuts
		if i == 1 {
			cuts = everywhere
		}
		for fuse := range 2 {
			for _, places := range [][2]int{{0, 0}, {0, 3}, {3, 0}, {1, 1}, {3, 3}, {2, 2}} {
				p := s.make(t)
				p.addSizes(t, 100, 236, 30)
				p.force(t)
				p.addSizes(t, 20)
				check, keep := p.l.Forced()-places[0], p.l.Forced()-places[1]
				check, keep = max(check, p.l.First()), max(keep, p.l.First())
				marked := p.m.copy()
				if e := marked.mark(check, keep); e != api.OK {
					t.Fatalf("%s: Mark(%d, %d) is %d", s.name, check, keep, e)
				}
				p.d.Fuse(fuse)
				if e := p.l.Mark(check, keep); e != api.ErrDown || p.d.Pending() != fuse {
					t.Fatalf("%s: Mark with a fuse of %d is %d, with %d writes pending", s.name, fuse, e, p.d.Pending())
				}
				for _, c := range crashes(fuse, cuts) {
					again := wantSurvived(t, s.name, p.d.Crash(c), p.m, marked)
					lasts := fuse == 1 && (!c.Torn && len(c.Keep) == 1 || c.Torn && c.Cut >= 256)
					if want := map[bool]int{false: p.m.first(), true: marked.first()}[lasts]; again.l.First() != want {
						t.Fatalf("%s: behind a Mark of which %v is left, First is %d; want %d", s.name, c, again.l.First(), want)
					}
				}
				wantGoesOn(t, s.name, wantSurvived(t, s.name, p.d.Crash(api.Crash{}), p.m))
			}
		}
	}
}

// P9.2: a Mark that returned OK is there whatever a crash does, and so are the sheets that are written over those that it let go.
func TestCrashBehindMark(t *testing.T) {
	for _, s := range scenes() {
		p := s.make(t)
		p.addSizes(t, 236, 236, 30)
		p.force(t)
		p.mark(t, p.l.Last(), p.l.Last())
		for round := range 6 {
			for _, c := range crashes(1, cuts) {
				again := wantSurvived(t, s.name, p.d.Crash(c), p.m)
				if again.l.Last() != p.m.forced() {
					t.Fatalf("%s: Last is %d; want %d", s.name, again.l.Last(), p.m.forced())
				}
			}
			// The ring is full up to its last sheet: what is torn was let go.
			p.addSizes(t, slices.Repeat([]int{236}, p.l.Room())...)
			forced := p.m.copy()
			p.force(t)
			p.mark(t, 0, p.l.Last()-round)
			wantSurvived(t, s.name, p.d.Crash(api.Crash{}), p.m)
			if p.m.first() < forced.first() {
				t.Fatalf("%s: First is %d, and was %d", s.name, p.m.first(), forced.first())
			}
		}
	}
}

// P9.2: a Force that fills the ring to its last sheet is cut short, right behind the sheets that are needed.
func TestPowerFailsInFullRing(t *testing.T) {
	t.Parallel()
	for kept := 1; kept < 8; kept++ {
		p := fresh(t, 8)
		for range 3 {
			p.addSizes(t, slices.Repeat([]int{236}, p.l.Room())...)
			p.force(t)
			p.mark(t, 0, p.l.Last()-kept+1)
		}
		for fuse := range 8 - kept + 1 {
			left := open(t, p.d.Crash(api.Crash{}), 8)
			left.addSizes(t, slices.Repeat([]int{236}, left.l.Room())...)
			left.d.Fuse(fuse)
			if e := left.l.Force(); e != api.ErrDown {
				t.Fatalf("Force is %d", e)
			}
			for _, c := range crashes(fuse, []int{0, 1, 128, 255, 256}) {
				wantGoesOn(t, "a full ring", wantSurvived(t, "a full ring", left.d.Crash(c), left.m))
			}
		}
	}
}

// P9.2: Format is cut short at its write and at its synchronization: there is an empty log, or none, which can be formatted again.
func TestPowerFailsInFormat(t *testing.T) {
	for fuse := range 2 {
		d := made(t, 10)
		d.Fuse(fuse)
		if e := wal.Format(d, 8); e != api.ErrDown || d.Pending() != fuse {
			t.Fatalf("Format with a fuse of %d is %d, with %d writes pending", fuse, e, d.Pending())
		}
		for cut := -1; cut <= 257; cut++ {
			for _, c := range crashes(1, []int{cut}) {
				left := d.Crash(c)
				if lasts := fuse == 1 && (!c.Torn && len(c.Keep) == 1 || c.Torn && c.Cut >= 256); !lasts {
					wantNotOpened(t, "Format was cut short", left, 8, api.ErrLost)
					if e := wal.Format(left, 8); e != api.OK {
						t.Fatalf("Format again is %d", e)
					}
				}
				wantLog(t, "Format", open(t, left, 8).l, &model{count: 8, master: api.Master{Gen: 2, Inc: 1, Lsn: 1}})
			}
		}
	}
}

// cutOpen opens a log whose power fails behind so many steps of Open, fewer than it takes.
func cutOpen(t *testing.T, d *disk.Disk, count, fuse int) {
	t.Helper()
	d.Fuse(fuse)
	if l, e := wal.Open(d, count); l != nil || e != api.ErrDown || d.Pending() != fuse || !d.Down() {
		t.Fatalf("Open with a fuse of %d is %v, %d, with %d writes pending; want nil, ErrDown", fuse, l, e, d.Pending())
	}
}

// P9.2: Open is cut short at its write and at its synchronization, and the write is kept, lost, or torn at each byte.
func TestPowerFailsInOpen(t *testing.T) {
	t.Parallel()
	for _, s := range scenes() {
		for fuse := range 2 {
			p := s.make(t)
			p.addSizes(t, 100, 236, 30)
			p.force(t)
			p.addSizes(t, 20)
			d := p.d.Crash(api.Crash{})
			cutOpen(t, d, p.m.count, fuse)
			for cut := -1; cut <= 257; cut++ {
				for _, c := range crashes(1, []int{cut}) {
					again := wantSurvived(t, s.name, d.Crash(c), p.m)
					lasts := fuse == 1 && (!c.Torn && len(c.Keep) == 1 || c.Torn && c.Cut >= 256)
					if want := p.m.master.Inc + 1 + map[bool]int{true: 1}[lasts]; again.l.Inc() != want || again.l.Last() != p.m.forced() {
						t.Fatalf("%s: behind an Open of which %v is left, Inc and Last are %d, %d; want %d, %d", s.name, c, again.l.Inc(), again.l.Last(), want, p.m.forced())
					}
				}
			}
		}
	}
}

// P9.2: Open is cut short again and again, in every way.
func TestPowerFailsInOpenAgainAndAgain(t *testing.T) {
	for _, s := range scenes() {
		p := s.make(t)
		p.addSizes(t, 100, 236, 30)
		p.force(t)
		d := p.d.Crash(api.Crash{})
		for i := range 200 {
			cutOpen(t, d, p.m.count, i%3%2)
			d = d.Crash(api.Crash{Keep: []int{i % 2}, Torn: i%5 > 1, Cut: i * 13 % 258})
			wantSurvived(t, s.name, d.Crash(api.Crash{}), p.m)
		}
		wantGoesOn(t, s.name, wantSurvived(t, s.name, d, p.m))
	}
}

// fate is where the power fails in a call, and what a crash leaves of it.
type fate struct {
	fuse  int
	crash api.Crash
}

// fates are of all kinds, for a Force of three sheets; that with a fuse of 4 returns OK.
func fates() []fate {
	return []fate{
		{0, api.Crash{}}, {1, api.Crash{}}, {1, api.Crash{Keep: []int{0}}}, {1, api.Crash{Torn: true, Cut: 100}},
		{2, api.Crash{Keep: []int{0}}}, {2, api.Crash{Keep: []int{1}}}, {2, api.Crash{Keep: []int{0}, Torn: true, Cut: 13}},
		{3, api.Crash{Keep: []int{0, 1, 2}}}, {3, api.Crash{Keep: []int{0, 2}}}, {3, api.Crash{Keep: []int{1, 2}}}, {3, api.Crash{Keep: []int{2}}},
		{3, api.Crash{Keep: []int{0, 1}, Torn: true, Cut: 255}}, {3, api.Crash{Keep: []int{0, 1}, Torn: true, Cut: 1}}, {3, api.Crash{Torn: true, Cut: 256}},
		{4, api.Crash{}},
	}
}

// P9.2: all sequences of three crashes in Force, with records appended between them, of one body that reaches over the sheets or of a body a sheet, and a Force ahead of some of them.
func TestAllSequencesOfCrashes(t *testing.T) {
	t.Parallel()
	kinds := [][]int{{700}, {236, 236, 200}, {100, 400, 200}}
	var follow func(p *pair, deep int)
	follow = func(p *pair, deep int) {
		if deep == 0 {
			p.addSizes(t, 12)
			p.force(t)
			wantSurvived(t, "all crashes", p.d.Crash(api.Crash{}), p.m)
			return
		}
		base := p.d.Crash(api.Crash{})
		for i, f := range fates() {
			p := open(t, base.Crash(api.Crash{}), p.m.count)
			if (i+deep)%4 == 0 {
				p.addSizes(t, 10)
				p.force(t)
			}
			p.addSizes(t, kinds[(i+deep)%3]...)
			p.d.Fuse(f.fuse)
			e := p.l.Force()
			if f.fuse == 4 && e == api.OK {
				p.m.force()
			} else if e != api.ErrDown {
				t.Fatalf("Force with a fuse of %d is %d", f.fuse, e)
			}
			follow(wantSurvived(t, "some crash", p.d.Crash(f.crash), p.m), deep-1)
		}
	}
	follow(fresh(t, 20), 3)
}

// P9.2: the same, where each crash is met in Mark, in Open and in Force by turns, and the ring is gone round.
func TestManyCrashes(t *testing.T) {
	t.Parallel()
	for seed := range 6 {
		r := draw{uint64(seed) * 7919}
		count := pick(&r, []int{8, 9, 12, 24})
		p := fresh(t, count)
		for range 1500 {
			p = p.live(t, &r)
		}
		if p.m.next < 4*count || p.m.first() < 100 || p.m.master.Inc < 1000 {
			t.Errorf("the last log is %+v", p.m.master)
		}
	}
}

// live is what becomes of a log that is used for a while, until its power fails or somebody lets it crash.
func (p *pair) live(t *testing.T, r *draw) *pair {
	t.Helper()
	var marked []*model
	if r.below(3) > 0 {
		p.d.Fuse(r.below(12))
	}
	for range r.below(12) {
		switch r.below(4) {
		case 0, 1:
			p.append(t, recordOf(pick(r, []int{1, 5, 12, 40, 236, 237, 300, 900}), r.below(90)), r.below(3))
		case 2:
			e := p.l.Force()
			if e == api.OK {
				p.m.force()
			}
		case 3:
			check, keep := p.m.first()+r.below(len(p.m.bodies)+1), p.m.first()+r.below(len(p.m.bodies)+1)
			after := p.m.copy()
			want := after.mark(check, keep)
			e := p.l.Mark(check, keep)
			if e == api.OK {
				p.m = after
			} else if want == api.OK {
				marked = append(marked, after)
			}
			if e != want && (e != api.ErrDown || !p.d.Down()) {
				t.Fatalf("Mark(%d, %d) is %d; want %d", check, keep, e, want)
			}
		}
		if p.d.Down() {
			wantDead(t, "the power failed", p.l, api.ErrDown)
			break
		}
		wantLog(t, "a log in use", p.l, p.m)
	}
	c := api.Crash{Torn: r.below(2) == 0, Cut: r.below(260) - 2}
	for i := range p.d.Pending() {
		if r.below(2) == 0 {
			c.Keep = append(c.Keep, i)
		}
	}
	left := p.d.Crash(c)
	for r.below(4) == 0 {
		cutOpen(t, left, p.m.count, r.below(2))
		left = left.Crash(api.Crash{Torn: true, Cut: r.below(260) - 2})
	}
	return wantSurvived(t, "some life", left, p.m, marked...)
}

// P9.2: a log survives the writes that others make to the rest of its disk, which are pending with its own.
func TestOthersOnTheDisk(t *testing.T) {
	for fuse := range 7 {
		d := made(t, 2+8+4)
		if e := wal.Format(d, 8); e != api.OK {
			t.Fatalf("Format is %d", e)
		}
		p := open(t, d, 8)
		p.addSizes(t, 236)
		p.force(t)
		for n := 10; n < 13; n++ {
			if e := d.Write(n, stamped(1, []byte{byte(n)})); e != api.OK {
				t.Fatalf("Write is %d", e)
			}
		}
		p.addSizes(t, 236, 236)
		d.Fuse(fuse)
		e := p.l.Force()
		if e == api.OK {
			p.m.force()
		}
		for _, c := range crashes(d.Pending(), []int{0, 99, 256}) {
			again := wantSurvived(t, "others on the disk", d.Crash(c), p.m)
			if m, e := master.Load(again.d); e != api.OK || m.Inc != 2 {
				t.Fatalf("the master record is %+v, %d", m, e)
			}
		}
	}
}
