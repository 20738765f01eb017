package wal_test

import (
	"math"
	"slices"
	"testing"

	"troth/api"
	"troth/master"
	"troth/wal"
)

// wantIdle fails if Force does something where no records wait.
func (p *pair) wantIdle(t *testing.T, what string) {
	t.Helper()
	before, syncs := sectorsOn(t, p.d), p.d.Syncs()
	if e := p.l.Force(); e != api.OK {
		t.Fatalf("%s: Force is %d; want OK", what, e)
	}
	wantOnly(t, what, before, sectorsOn(t, p.d))
	if p.d.Syncs() != syncs || p.d.Pending() != 0 {
		t.Fatalf("%s: Force synchronizes %d times, and leaves %d writes pending", what, p.d.Syncs()-syncs, p.d.Pending())
	}
	wantLog(t, what, p.l, p.m)
}

// P9.1: Force does nothing where there is nothing to be forced: at first, behind Force, behind Mark, behind Open, behind a record that was refused.
func TestForceOfNothing(t *testing.T) {
	p := fresh(t, 8)
	p.wantIdle(t, "an empty log")
	p.addSizes(t, 20, 300)
	p.force(t)
	p.wantIdle(t, "behind Force")
	p.wantIdle(t, "behind Force, twice")
	p.mark(t, 1, 2)
	p.wantIdle(t, "behind Mark")
	p.append(t, api.Rec{}, 0)
	p.append(t, recordOf(20, 1), 8)
	p.wantIdle(t, "behind records that were refused")
	p = p.reopen(t)
	p.wantIdle(t, "behind Open")
	// What other writes are pending is not the log's to synchronize, and the power is not asked for.
	if e := p.d.Write(0, make([]byte, 256)); e != api.OK {
		t.Fatal(e)
	}
	p.d.Fuse(0)
	if e := p.l.Force(); e != api.OK || p.d.Pending() != 1 || p.d.Down() {
		t.Errorf("Force of nothing is %d, with %d writes pending, and Down %t", e, p.d.Pending(), p.d.Down())
	}
}

// P9.1: Force of one record, and of several sheets' records, from the next position on; Forces counts those that write.
func TestForce(t *testing.T) {
	p := fresh(t, 64)
	for i, sizes := range [][]int{{1}, {236}, {237}, {236, 236, 236}, {10, 20, 30}, {4096}, {700, 1, 700}, {2, 2, 2, 2}, {241, 242, 243}} {
		p.addSizes(t, sizes...)
		wantLog(t, "ahead of Force", p.l, p.m)
		p.force(t)
		if p.l.Forces() != i+1 || p.l.Forced() != p.l.Last() {
			t.Fatalf("behind %d Forces, Forces, Forced and Last are %d, %d, %d", i+1, p.l.Forces(), p.l.Forced(), p.l.Last())
		}
		p.wantIdle(t, "twice in a row")
		p.wantReopened(t, "Force")
	}
	again := p.reopen(t)
	if again.l.Forces() != 0 {
		t.Errorf("behind Open, Forces is %d; want 0", again.l.Forces())
	}
	again.addSizes(t, 5)
	again.force(t)
	if again.l.Forces() != 1 || again.l.Inc() != 2 {
		t.Errorf("Forces and Inc are %d, %d; want 1, 2", again.l.Forces(), again.l.Inc())
	}
}

// P9.1: what a sheet of a forced record is made of, told byte by byte.
func TestForcedBytes(t *testing.T) {
	p := fresh(t, 8)
	p.add(t, api.Rec{Kind: api.RecEnd, Tx: 5, Prev: 3})
	p.force(t)
	want := stamped(1, []byte{0, 0, 0, 0, 1, 0, 0, 0, 0, 0, 0, 8, 3, 6, 5, 3})
	got := sectorOn(t, p.d, 2)
	// The four bytes of the checksum are layer 3's matter.
	copy(want[17:21], got[17:21])
	if !slices.Equal(got, want) || slices.Equal(got[17:21], make([]byte, 4)) {
		t.Errorf("the sector of the first sheet is %v; want %v", got, want)
	}
}

// P9.1: a ring is gone round many times, with Mark between, by records of every size, and is opened again now and then.
func TestGoRound(t *testing.T) {
	for _, count := range []int{8, 9, 13, 64} {
		p := fresh(t, count)
		for i := range 60 {
			sizes := []int{1 + i*37%300, 1 + i*91%240, 236, 1 + i%5}
			p.addSizes(t, sizes[:1+i%4]...)
			p.force(t)
			keep := p.l.Forced() - i%2
			if keep < p.l.First() {
				keep = p.l.Forced()
			}
			if e := p.mark(t, p.l.Forced(), keep); e != api.OK {
				t.Fatalf("Mark is %d", e)
			}
			switch i % 5 {
			case 3:
				p.wantReopened(t, "round the ring")
			case 4:
				p = p.wantReopened(t, "round the ring")
			}
		}
		if p.m.next < 7*8 {
			t.Fatalf("the next position is %d: not gone round", p.m.next)
		}
	}
}

// P9.1: a ring that is full again and again, up to its last sheet, where Mark frees one sheet at a time, or all but one.
func TestFullAgainAndAgain(t *testing.T) {
	for _, count := range []int{8, 9} {
		for _, freed := range []int{1, 3, count - 1} {
			p := fresh(t, count)
			for range 40 {
				p.addSizes(t, slices.Repeat([]int{236}, p.l.Room())...)
				if e := p.append(t, recordOf(1, 1), 0); e != api.ErrLog || p.l.Room() != 0 {
					t.Fatalf("Append to a full ring is %d, and Room %d", e, p.l.Room())
				}
				p.force(t)
				p.mark(t, 0, p.l.First()+freed)
				if p.l.Room() != freed {
					t.Fatalf("Mark frees %d sheets; want %d", p.l.Room(), freed)
				}
			}
			p.wantReopened(t, "a ring that was full")
		}
	}
}

// P9.1: the greatest ring, gone round.
func TestGreatestRing(t *testing.T) {
	p := fresh(t, 1024)
	for range 3 {
		p.addSizes(t, slices.Repeat([]int{4096}, 40)...)
		p.force(t)
		p.mark(t, 0, p.l.Forced())
	}
	p.wantReopened(t, "the greatest ring")
}

// P9.1: records begin anywhere in the numbers, up to the last positions that there are.
func TestLastPositions(t *testing.T) {
	d := holding(t, 8, api.Master{Gen: 1, First: most - 3, Lsn: 1})
	p := open(t, d, 8)
	p.addSizes(t, 236)
	p.force(t)
	p.addSizes(t, 236, 236)
	p.force(t)
	p.addSizes(t, 1)
	// There is no position any more: the log stays as it is.
	for range 2 {
		if e := p.l.Force(); e == api.OK || e == api.ErrDown {
			t.Fatalf("Force behind the last position is %d", e)
		}
		wantLog(t, "behind the last position", p.l, p.m)
	}
	if m, e := master.Load(d); e != api.OK || m != p.m.master || d.Pending() != 0 {
		t.Errorf("the master record is %+v, %d, with %d writes pending", m, e, d.Pending())
	}
	p.wantReopened(t, "the last positions")
}

// markable is a log with records of all kinds of places: several in a sheet, one in several sheets, at the beginning of a sheet and at its end, some of them in a second Force, and some that were not forced.
func markable(t *testing.T, count int) *pair {
	t.Helper()
	p := fresh(t, count)
	p.addSizes(t, 20, 30, 300, 40, 50)
	p.force(t)
	p.addSizes(t, 236, 10, 226, 500)
	p.force(t)
	p.addSizes(t, 30, 300)
	return p
}

// P9.1 and P9.3: Mark with all checks and all keeps that there may be, and with others beyond.
func TestMark(t *testing.T) {
	for _, count := range []int{16, 17} {
		for check := -2; check < 13; check++ {
			for keep := -2; keep < 13; keep++ {
				p := markable(t, count)
				before := p.m.copy()
				if p.l.First() != 1 || p.l.Forced() != 9 || p.l.Last() != 11 {
					t.Fatalf("First, Last and Forced are %v", numbersOf(p.l))
				}
				want := api.OK
				if keep < 1 || keep > 9 || check < 0 || check > 9 {
					want = api.ErrLsn
				}
				if e := p.mark(t, check, keep); e != want {
					t.Fatalf("Mark(%d, %d) is %d; want %d", check, keep, e, want)
				}
				if want == api.OK {
					p.wantKept(t, before, keep)
					p.wantReopened(t, "Mark").wantKept(t, before, keep)
					p.force(t)
					p.wantReopened(t, "Mark and Force").wantKept(t, before, keep)
				}
			}
		}
	}
}

// wantKept fails if a record from keep on that the log had is not there any more, or a record is another one than before.
func (p *pair) wantKept(t *testing.T, before *model, keep int) {
	t.Helper()
	if p.l.First() > keep || p.l.First() < before.first() || p.l.Forced() < before.forced() || p.l.Last() > before.last() {
		t.Fatalf("with the records from %d to %d, behind Mark of %d, First, Last and Forced are %v", before.first(), before.last(), keep, numbersOf(p.l))
	}
	for lsn := p.l.First(); lsn <= p.l.Last(); lsn++ {
		wantGet(t, "behind Mark", p.l, lsn, before.bodies[lsn-before.first()])
	}
}

// P9.1: where a log begins behind Mark: with the first record that begins in the sheet in which keep does.
func TestMarkBegins(t *testing.T) {
	// With their seals, the records of the first Force have 25, 35, 306, 45 and 55 bytes, those of the second one 242, 15, 232 and 506.
	for keep, want := range map[int]struct{ lsn, sheet int }{1: {1, 0}, 2: {1, 0}, 3: {1, 0}, 4: {4, 1}, 5: {4, 1}, 6: {6, 2}, 7: {7, 3}, 8: {7, 3}, 9: {9, 4}} {
		p := markable(t, 16)
		p.mark(t, 0, keep)
		m, e := master.Load(p.d)
		if e != api.OK || m != (api.Master{Gen: 3, Inc: 1, First: want.sheet, Lsn: want.lsn}) || p.l.First() != want.lsn {
			t.Errorf("behind Mark of %d, the master record is %+v, %d, and First %d; want First %d and Lsn %d", keep, m, e, p.l.First(), want.sheet, want.lsn)
		}
		// Two sheets and five were written, and two more will be.
		if sheets := 2 + 5 - want.sheet + 2; p.l.Used() != sheets {
			t.Errorf("behind Mark of %d, Used is %d; want %d", keep, p.l.Used(), sheets)
		}
	}
}

// P9.1: Mark's limits change with First and Forced.
func TestMarkAgain(t *testing.T) {
	p := markable(t, 16)
	p.mark(t, 9, 7)
	for _, wrong := range [][2]int{{0, 6}, {0, 0}, {0, -1}, {0, 10}, {6, 7}, {-1, 7}, {10, 7}, {1, 9}, {math.MinInt, 9}, {math.MaxInt, 9}, {0, math.MinInt}, {0, math.MaxInt}} {
		if e := p.mark(t, wrong[0], wrong[1]); e != api.ErrLsn || p.l.Check() != 9 {
			t.Fatalf("Mark(%d, %d) is %d, and Check %d; want ErrLsn, 9", wrong[0], wrong[1], e, p.l.Check())
		}
	}
	for _, right := range [][2]int{{7, 7}, {7, 8}, {8, 7}, {9, 7}, {0, 7}, {9, 9}} {
		if e := p.mark(t, right[0], right[1]); e != api.OK || p.l.Check() != right[0] {
			t.Fatalf("Mark(%d, %d) is %d, and Check %d", right[0], right[1], e, p.l.Check())
		}
	}
	if p.l.First() != 9 {
		t.Fatalf("First is %d; want 9", p.l.First())
	}
	p.force(t)
	p.mark(t, 11, 11)
	again := p.wantReopened(t, "Mark again")
	if again.l.Check() != 11 || again.l.First() != 10 {
		t.Errorf("Check and First are %d, %d; want 11, 10", again.l.Check(), again.l.First())
	}
}

// P9.1: nothing can be marked where nothing was forced.
func TestMarkOfNothing(t *testing.T) {
	p := fresh(t, 8)
	for round := range 2 {
		for _, keep := range []int{-1, 0, 1, 2} {
			for _, check := range []int{-1, 0, 1, 2} {
				if e := p.mark(t, check, keep); e != api.ErrLsn {
					t.Fatalf("round %d: Mark(%d, %d) is %d; want ErrLsn", round, check, keep, e)
				}
			}
		}
		p.addSizes(t, 20)
	}
}

// P9.1: an error of Save's changes nothing, and lets the log go on.
func TestMarkAtTheEndOfNumbers(t *testing.T) {
	p := open(t, holding(t, 8, api.Master{Gen: most - 2, Lsn: 1}), 8)
	p.addSizes(t, 236, 236)
	p.force(t)
	if e := p.mark(t, 1, 1); e != api.OK {
		t.Fatalf("Mark is %d", e)
	}
	for range 2 {
		if e := p.l.Mark(2, 2); e != api.ErrArg {
			t.Fatalf("Mark with the last Gen is %d; want ErrArg", e)
		}
		wantLog(t, "the last Gen", p.l, p.m)
		p.wantMaster(t, "the last Gen")
		p.addSizes(t, 20)
		p.force(t)
	}
	if l, e := wal.Open(p.d, 8); l != nil || e != api.ErrArg {
		t.Errorf("Open with the last Gen is %v, %d; want nil, ErrArg", l, e)
	}
}

// P9.3: records that were not forced stay behind Mark, and are forced where they would have been.
func TestMarkAheadOfForce(t *testing.T) {
	p := markable(t, 16)
	p.mark(t, 3, 6)
	p.addSizes(t, 200, 2)
	p.force(t)
	p.mark(t, 13, 10)
	if p.l.First() != 10 || p.l.Last() != 13 {
		t.Fatalf("First, Last and Forced are %v", numbersOf(p.l))
	}
	p.wantReopened(t, "Mark ahead of Force")
}
