package pool_test

import (
	"testing"

	"troth/api"
	"troth/slot"
)

// way is one by which a page is written back: page 0, which is not pinned, in a pool of three pages and two frames that also has page 1, pinned.
type way struct {
	name string
	call func(b buffer) api.Errno
	goes bool // page 0 has no frame behind it
}

var ways = []way{
	{"Flush", func(b buffer) api.Errno { return b.Flush(0) }, false},
	{"Evict", func(b buffer) api.Errno { return b.Evict(0) }, true},
	{"Fetch", func(b buffer) api.Errno { return b.Fetch(2) }, true},
}

// ready is a pool for such a way; page 0 was changed with each of these Lsns.
func ready(t *testing.T, records, forced int, lsns ...int) *pair {
	t.Helper()
	p := fresh(t, 3, 2)
	p.note(t, forced)
	p.force(t)
	p.note(t, records-forced)
	p.fetch(t, api.OK, 0, 1)
	for _, lsn := range lsns {
		p.change(t, api.OK, 0, lsn, "a", has("x"))
	}
	p.unpin(t, api.OK, 0)
	return p
}

// P12.1 and P12.3: the log is forced if the page's Lsn is greater than what it has forced, all of it, and otherwise not.
func TestForcing(t *testing.T) {
	for _, w := range ways {
		for records := 1; records < 6; records++ {
			for forced := range records + 1 {
				for lsn := 1; lsn <= records; lsn++ {
					p := ready(t, records, forced, lsn)
					forces := p.one.l.Forces()
					p.do(t, w.name, api.OK, w.call)
					want := forced
					if lsn > forced {
						want = records
						forces++
					}
					p.wantForced(t, w.name, want)
					if p.one.l.Forces() != forces {
						t.Errorf("%s of the Lsn %d, with %d records forced: the log is forced %d times; want %d", w.name, lsn, forced, p.one.l.Forces(), forces)
					}
					p.wantSaved(t, w.name, 0, 1, lsn)
				}
			}
		}
	}
}

// P12.1: it is the page's Lsn that counts, which is that of the last change, neither Rec nor the greatest one.
func TestLsnOfTheLastChangeCounts(t *testing.T) {
	for _, w := range ways {
		p := ready(t, 4, 2, 1, 4)
		p.do(t, w.name, api.OK, w.call)
		p.wantForced(t, w.name, 4)
		p.wantSaved(t, w.name, 0, 1, 4)

		p = ready(t, 4, 2, 4, 2)
		p.do(t, w.name, api.OK, w.call)
		p.wantForced(t, w.name, 2)
		p.wantSaved(t, w.name, 0, 1, 2)
	}
}

// P12.1: the records of other pages that wait are forced with the page's, and their pages are not written back.
func TestOtherPagesWait(t *testing.T) {
	p := fresh(t, 4, 4)
	p.fetch(t, api.OK, 0, 1, 2)
	first := p.set(t, 0, "a", "x")
	p.set(t, 1, "a", "x")
	last := p.set(t, 2, "a", "x")
	p.flush(t, api.OK, 0)
	p.wantForced(t, "Flush of the first one", last)
	p.wantSaved(t, "Flush of the first one", 0, 1, first)
	p.wantSaved(t, "Flush of the first one", 1, 0, 0)
	p.wantSaved(t, "Flush of the first one", 2, 0, 0)
	if got := p.one.p.Dirty(); len(got) != 2 {
		t.Errorf("Dirty is %v; want two pages", got)
	}
	p.flush(t, api.OK, 1, 2)
	if p.one.l.Forces() != 1 {
		t.Errorf("the log was forced %d times; want once", p.one.l.Forces())
	}
	p.wantSaved(t, "Flush of the others", 2, 1, last)
}

// P12.1: an Lsn that the log does not have yet: the log is forced, and then the page is saved.
func TestLsnBeyondTheLog(t *testing.T) {
	for _, w := range ways {
		for _, lsn := range []int{3, 4, most} {
			d := formatted(t, 3)
			l := logOn(t, d)
			p := poolOn(t, d, start, 3, 2, l)
			for range 2 {
				if _, e := l.Append(api.Rec{Kind: api.RecBegin}, 0); e != api.OK {
					t.Fatalf("Append is %d", e)
				}
			}
			for _, e := range []api.Errno{p.Fetch(0), p.Fetch(1), p.Change(0, lsn, "a", has("x")), p.Unpin(0)} {
				if e != api.OK {
					t.Fatalf("a call is %d", e)
				}
			}
			if e := w.call(p); e != api.OK || l.Forced() != 2 || l.Forces() != 1 {
				t.Errorf("%s is %d, and the log forced up to %d, %d times; want OK, 2, 1", w.name, e, l.Forced(), l.Forces())
			}
			if got, turn, e := slot.Load(d, start, 0); e != api.OK || turn != 1 || got.Lsn != lsn {
				t.Errorf("%s: the page on the disk is %+v, %d, %d", w.name, got, turn, e)
			}
		}
	}
}

// P12.1: writing back a clean page does nothing at all, on any disk and beside any log.
func TestCleanPagesAreNotWritten(t *testing.T) {
	for _, w := range ways {
		for _, changed := range []bool{false, true} {
			p := fresh(t, 3, 2)
			p.fetch(t, api.OK, 0, 1)
			if changed {
				p.set(t, 0, "a", "x")
				p.flush(t, api.OK, 0)
			}
			p.note(t, 2)
			p.unpin(t, api.OK, 0)
			before, syncs, forces := image(t, p.one.d), p.one.d.Syncs(), p.one.l.Forces()
			for range 3 {
				p.flush(t, api.OK, 0, 1, 2)
			}
			p.do(t, w.name, api.OK, w.call)
			if !alike(image(t, p.one.d), before) || p.one.d.Syncs() != syncs || p.one.l.Forces() != forces {
				t.Errorf("%s of a clean page writes something", w.name)
			}
		}
	}
}

// P12.1: each writing back takes the next turn, in the one sector and the other, and leaves all others as they were.
func TestTurns(t *testing.T) {
	for _, w := range ways {
		p := fresh(t, 3, 2)
		for turn := 1; turn <= 9; turn++ {
			p.fetch(t, api.OK, 0, 1)
			lsn := p.set(t, 0, "a", "x")
			p.unpin(t, api.OK, 0)
			p.force(t)
			p.wantSaved(t, w.name, 0, turn-1, max(0, lsn-1))
			before, syncs := image(t, p.one.d), p.one.d.Syncs()
			p.do(t, w.name, api.OK, w.call)
			p.wantSaved(t, w.name, 0, turn, lsn)
			if p.one.d.Syncs() != syncs+1 {
				t.Errorf("%s synchronizes %d times; want once", w.name, p.one.d.Syncs()-syncs)
			}
			for n, content := range image(t, p.one.d) {
				if changed := string(content) != string(before[n]); changed != (n == start+turn%2) {
					t.Errorf("%s for the turn %d changes sector %d: %t", w.name, turn, n, changed)
				}
			}
			if w.name == "Fetch" {
				p.unpin(t, api.OK, 2)
				p.evict(t, api.OK, 2)
			}
			p.unpin(t, api.OK, 1)
		}
	}
}

// P12.1: a pinned page is written back by Flush as any other is, and stays pinned.
func TestFlushOfPinned(t *testing.T) {
	p := fresh(t, 2, 2)
	p.fetch(t, api.OK, 0, 0)
	lsn := p.set(t, 0, "a", "x")
	p.flush(t, api.OK, 0)
	p.wantNumbers(t, "Flush", 0, 2, 0, 1)
	p.wantSaved(t, "Flush", 0, 1, lsn)
	p.unpin(t, api.OK, 0, 0)
	p.unpin(t, api.ErrPins, 0)
	p.flush(t, api.OK, 0)
	p.wantNumbers(t, "Flush", 0, 0, 0, 1)
	p.wantSaved(t, "Flush", 0, 1, lsn)
}
