package wal_test

import (
	"math"
	"testing"

	"troth/api"
	"troth/wal"
)

// wantDead fails if a method of a log is another error than this one, or not zero beside it, whatever it is passed.
func wantDead(t *testing.T, what string, l *wal.Log, want api.Errno) {
	t.Helper()
	for range 2 {
		for _, r := range []api.Rec{recordOf(1, 0), recordOf(20, 0), recordOf(4096, 0), recordOf(4097, 0), {}} {
			for _, spare := range []int{0, -1, 1, math.MaxInt, math.MinInt} {
				if lsn, e := l.Append(r, spare); lsn != 0 || e != want {
					t.Fatalf("%s: Append is %d, %d; want 0, %d", what, lsn, e, want)
				}
			}
		}
		if e := l.Force(); e != want {
			t.Fatalf("%s: Force is %d; want %d", what, e, want)
		}
		for _, lsn := range []int{0, 1, 2, 3, -1, math.MaxInt, math.MinInt} {
			for _, check := range []int{0, 1, -1, math.MaxInt} {
				if e := l.Mark(check, lsn); e != want {
					t.Fatalf("%s: Mark(%d, %d) is %d; want %d", what, check, lsn, e, want)
				}
			}
			wantNotGot(t, what, l, lsn, want)
		}
		if got := numbersOf(l); got != [8]int{} {
			t.Fatalf("%s: First, Last, Forced, Check, Used, Room, Forces and Inc are %v; want zeros", what, got)
		}
	}
}

// P9.1 and P0.1: a nil log.
func TestNilLog(t *testing.T) { wantDead(t, "a nil log", nil, api.ErrNil) }

// P9.1: a log is down from the write or the synchronization of Force at which the power fails.
func TestDownInForce(t *testing.T) {
	for _, forced := range [][]int{nil, {20, 30}, {300, 300}} {
		for _, waiting := range [][]int{{20}, {236, 236, 20}, {600}} {
			for fuse := range 5 {
				p := fresh(t, 16)
				p.addSizes(t, forced...)
				p.force(t)
				p.addSizes(t, waiting...)
				steps := len(p.m.laid()) + 1
				p.d.Fuse(fuse)
				if fuse >= steps {
					if e := p.l.Force(); e != api.OK {
						t.Fatalf("Force with a fuse of %d is %d; it has %d steps", fuse, e, steps)
					}
					continue
				}
				if e := p.l.Force(); e != api.ErrDown || p.d.Pending() != fuse {
					t.Fatalf("Force with a fuse of %d is %d, and leaves %d writes pending; want ErrDown, %d", fuse, e, p.d.Pending(), fuse)
				}
				wantDead(t, "Force was cut short", p.l, api.ErrDown)
				p.d.Fuse(-1)
				wantDead(t, "Force was cut short, and the fuse removed", p.l, api.ErrDown)
			}
		}
	}
}

// P9.1: a log is down from the write or the synchronization of Mark at which the power fails.
func TestDownInMark(t *testing.T) {
	for fuse := range 2 {
		p := fresh(t, 16)
		p.addSizes(t, 236, 236, 20)
		p.force(t)
		p.addSizes(t, 30)
		p.d.Fuse(fuse)
		if e := p.l.Mark(1, 2); e != api.ErrDown || p.d.Pending() != fuse {
			t.Fatalf("Mark with a fuse of %d is %d, and leaves %d writes pending; want ErrDown, %d", fuse, e, p.d.Pending(), fuse)
		}
		wantDead(t, "Mark was cut short", p.l, api.ErrDown)
	}
}

// P9.1: the power fails in one of several calls; each of those ahead of it has its steps.
func TestStepsOfCalls(t *testing.T) {
	for fuse := range 12 {
		p := fresh(t, 16)
		p.d.Fuse(fuse)
		left := fuse
		for call := range 6 {
			steps := 2
			var e api.Errno
			if call%2 == 0 {
				p.addSizes(t, 236, 20)
				steps = 3
				e = p.l.Force()
			} else {
				e = p.l.Mark(p.l.Forced(), p.l.Forced())
			}
			left -= steps
			if left < 0 {
				if e != api.ErrDown {
					t.Fatalf("with a fuse of %d, call %d is %d; want ErrDown", fuse, call, e)
				}
				wantDead(t, "some call was cut short", p.l, api.ErrDown)
				break
			}
			if e != api.OK {
				t.Fatalf("with a fuse of %d, call %d is %d; want OK", fuse, call, e)
			}
			if call%2 == 0 {
				p.m.force()
			} else {
				p.m.mark(p.m.forced(), p.m.forced())
			}
			wantLog(t, "calls ahead of the one that is cut short", p.l, p.m)
		}
	}
}

// P9.1: a log whose disk is down is not until one of its methods finds that out; errors that come ahead of the disk's are told, and do not make it be down.
func TestDiskIsDown(t *testing.T) {
	down := func() *pair {
		p := fresh(t, 8)
		p.addSizes(t, 236, 236, 20)
		p.force(t)
		fallen(t, p.d)
		return p
	}
	p := down()
	for range 2 {
		wantLog(t, "a disk that is down", p.l, p.m)
		if e := p.l.Force(); e != api.OK {
			t.Fatalf("Force of nothing is %d; want OK", e)
		}
		if e := p.l.Mark(0, 9); e != api.ErrLsn {
			t.Fatalf("Mark of no record is %d; want ErrLsn", e)
		}
		if e := p.append(t, api.Rec{}, 0); e != api.ErrArg {
			t.Fatalf("Append of no record is %d; want ErrArg", e)
		}
		if e := p.append(t, recordOf(20, 0), 8); e != api.ErrLog {
			t.Fatalf("Append without room is %d; want ErrLog", e)
		}
		p.addSizes(t, 30)
		wantLog(t, "a disk that is down, and a record", p.l, p.m)
		p = down()
	}
	p.addSizes(t, 30)
	if e := p.l.Force(); e != api.ErrDown {
		t.Fatalf("Force is %d; want ErrDown", e)
	}
	wantDead(t, "Force found out", p.l, api.ErrDown)
	p = down()
	if e := p.l.Mark(0, 1); e != api.ErrDown {
		t.Fatalf("Mark is %d; want ErrDown", e)
	}
	wantDead(t, "Mark found out", p.l, api.ErrDown)
}

// P9.1: other errors do not make a log be down.
func TestErrorsThatDoNotEndALog(t *testing.T) {
	p := fresh(t, 8)
	p.addSizes(t, 20, 30)
	for range 5 {
		p.append(t, api.Rec{}, 0)
		p.append(t, recordOf(4097, 0), 0)
		p.append(t, recordOf(20, 0), 9)
		p.mark(t, 0, 99)
		p.mark(t, -1, 1)
		wantNotGot(t, "errors", p.l, 99, api.ErrLsn)
		p.addSizes(t, 10)
		p.force(t)
		p.mark(t, 1, 1)
	}
	p.wantReopened(t, "errors")
}

// P9.1: a log that is down does not make another one be, on a disk that a crash left.
func TestLogsAreApart(t *testing.T) {
	p := fresh(t, 8)
	p.addSizes(t, 20)
	p.force(t)
	left := p.d.Crash(api.Crash{})
	p.addSizes(t, 30)
	fallen(t, p.d)
	if e := p.l.Force(); e != api.ErrDown {
		t.Fatalf("Force is %d; want ErrDown", e)
	}
	again := open(t, left, 8)
	again.addSizes(t, 40)
	again.force(t)
	wantDead(t, "the log that is down", p.l, api.ErrDown)
	again.wantReopened(t, "the other log")
}
