package pool_test

import (
	"testing"

	"troth/api"
	"troth/disk"
	"troth/master"
	"troth/pool"
	"troth/slot"
	"troth/wal"
)

// apart is a pool of three pages and two frames whose pages and whose log are on two disks.
type apart struct {
	pages, logs *disk.Disk
	l           *wal.Log
	p           *pool.Pool
}

// split is one in which page 0 is dirty since the record 1 and not pinned, and page 1 is pinned.
func split(t *testing.T, forced bool) apart {
	t.Helper()
	a := apart{pages: made(t, 6), logs: formatted(t, 1)}
	a.l = logOn(t, a.logs)
	a.p = poolOn(t, a.pages, 0, 3, 2, a.l)
	if lsn, e := a.l.Append(api.Rec{Kind: api.RecBegin}, 0); lsn != 1 || e != api.OK {
		t.Fatalf("Append is %d, %d", lsn, e)
	}
	if forced {
		if e := a.l.Force(); e != api.OK {
			t.Fatalf("Force is %d", e)
		}
	}
	for _, e := range []api.Errno{a.p.Fetch(0), a.p.Fetch(1), a.p.Change(0, 1, "a", has("x")), a.p.Unpin(0)} {
		if e != api.OK {
			t.Fatalf("a call is %d", e)
		}
	}
	return a
}

// logFalls makes a log find out that its disk is down.
func (a apart) logFalls(t *testing.T) {
	t.Helper()
	if _, e := a.l.Append(api.Rec{Kind: api.RecBegin}, 0); e != api.OK {
		t.Fatalf("Append is %d", e)
	}
	fell(t, a.logs)
	if e := a.l.Force(); e != api.ErrDown {
		t.Fatalf("Force is %d; want ErrDown", e)
	}
}

// wantFailing fails if writing back page 0 does not fail with ErrDown, in whatever way, or changes a frame or the pages' disk.
func (a apart) wantFailing(t *testing.T, what string) {
	t.Helper()
	frames, before, syncs := a.p.Frames(), image(t, a.pages), a.pages.Syncs()
	for range 2 {
		for _, w := range ways {
			if e := w.call(a.p); e != api.ErrDown {
				t.Errorf("%s: %s is %d; want ErrDown", what, w.name, e)
			}
		}
	}
	if got := a.p.Frames(); !sameFrames(got, frames) || len(got) != 2 || got[0].Rec != 1 || got[0].Stamp != 0 {
		t.Errorf("%s: the frames are %+v; want %+v", what, got, frames)
	}
	if dirty := a.p.Dirty(); len(dirty) != 1 || dirty[0] != (api.Dirty{Page: 0, Rec: 1}) {
		t.Errorf("%s: Dirty is %v", what, dirty)
	}
	if !alike(image(t, a.pages), before) || a.pages.Syncs() != syncs {
		t.Errorf("%s: the pages' disk is changed", what)
	}
}

// P12.1 and P12.3: a log that is down is forced in vain, whether or not it had forced the record of the change: the page is not saved.
func TestLogIsDown(t *testing.T) {
	for _, forced := range []bool{false, true} {
		a := split(t, forced)
		a.logFalls(t)
		a.wantFailing(t, "a log that is down")
	}
}

// P12.1 and P12.3: a log that goes down when it is forced for the page, at each write and at the synchronization.
func TestLogGoesDown(t *testing.T) {
	for fuse := range 2 {
		for _, w := range ways {
			a := split(t, false)
			a.logs.Fuse(fuse)
			if e := w.call(a.p); e != api.ErrDown || !a.logs.Down() || a.logs.Pending() != fuse {
				t.Fatalf("%s is %d, with %d writes pending", w.name, e, a.logs.Pending())
			}
			a.wantFailing(t, "a log that went down")
		}
	}
}

// P12.1: a log whose disk is down, but which need not be forced, does not keep a page from being saved.
func TestLogNeedNotBeForced(t *testing.T) {
	for _, w := range ways {
		a := split(t, true)
		fell(t, a.logs)
		if e := w.call(a.p); e != api.OK || len(a.p.Dirty()) != 0 || a.pages.Syncs() != 1 {
			t.Errorf("%s is %d, and %v is dirty", w.name, e, a.p.Dirty())
		}
	}
}

// P12.1: a log that is down does not matter where no dirty page is written back.
func TestLogIsDownAndPagesAreClean(t *testing.T) {
	a := split(t, false)
	if e := a.p.Flush(0); e != api.OK {
		t.Fatalf("Flush is %d", e)
	}
	a.logFalls(t)
	for _, w := range ways {
		if e := w.call(a.p); e != api.OK {
			t.Errorf("%s of a clean page is %d", w.name, e)
		}
	}
	if e := a.p.Fetch(0); e != api.ErrPool {
		t.Errorf("Fetch is %d; want ErrPool", e)
	}
	if e := a.p.Unpin(2); e != api.OK {
		t.Errorf("Unpin is %d", e)
	}
	if e := a.p.Fetch(0); e != api.OK {
		t.Errorf("Fetch is %d", e)
	}
	if p, e := a.p.Page(0); e != api.OK || p.Lsn != 1 || len(p.Cells) != 1 {
		t.Errorf("Page is %+v, %d", p, e)
	}
	if e := a.p.Change(0, 2, "a", has("y")); e != api.OK {
		t.Errorf("Change is %d", e)
	}
	if e := a.p.Flush(0); e != api.ErrDown {
		t.Errorf("Flush is %d; want ErrDown", e)
	}
}

// P12.1: the pages' disk is down, the log's is not: the log is forced first, and then saving fails.
func TestPagesDiskIsDown(t *testing.T) {
	for _, forced := range []bool{false, true} {
		for _, w := range ways {
			a := split(t, forced)
			fell(t, a.pages)
			if e := w.call(a.p); e != api.ErrDown || a.l.Forced() != 1 || a.l.Forces() != 1 {
				t.Errorf("%s is %d, and the log forced up to %d, %d times; want ErrDown, 1, 1", w.name, e, a.l.Forced(), a.l.Forces())
			}
			a.wantFailing(t, "the pages' disk is down")
			if a.l.Forced() != 1 || a.l.Forces() != 1 {
				t.Errorf("the log forced up to %d, %d times; want 1, 1", a.l.Forced(), a.l.Forces())
			}
		}
	}
}

// P12.1: a page that cannot be loaded, since the disk is down, has no frame; that of a clean page was free for it.
func TestLoadingFails(t *testing.T) {
	a := split(t, true)
	if e := a.p.Flush(0); e != api.OK {
		t.Fatalf("Flush is %d", e)
	}
	fell(t, a.pages)
	for range 2 {
		if e := a.p.Fetch(2); e != api.ErrDown {
			t.Errorf("Fetch is %d; want ErrDown", e)
		}
		if got := a.p.Frames(); len(got) != 1 || got[0].No != 1 || got[0].Pins != 1 {
			t.Errorf("the frames are %+v; want that of page 1", got)
		}
	}
	if e := a.p.Fetch(1); e != api.OK {
		t.Errorf("Fetch of a page in a frame is %d", e)
	}
	if e := a.p.Fetch(0); e != api.ErrDown {
		t.Errorf("Fetch is %d; want ErrDown", e)
	}
}

// P12.1: only the page that was fetched least recently is tried: if it can't be written back, another one that is clean does not go for it.
func TestOneThatCannotBeWrittenBackStays(t *testing.T) {
	p := fresh(t, 4, 3)
	p.fetch(t, api.OK, 0, 1, 2)
	p.set(t, 0, "a", "x")
	p.unpin(t, api.OK, 0, 1, 2)
	for _, s := range []site{p.one, p.two} {
		fell(t, s.d)
	}
	p.fetch(t, api.ErrDown, 3)
	p.wantHeld(t, "a disk that is down", 0, 1, 2)
	// Page 1, which is clean, goes once it was fetched least recently.
	p.fetch(t, api.OK, 0)
	p.fetch(t, api.ErrDown, 3)
	p.wantHeld(t, "a disk that is down", 0, 2)
}

// P12.1: the log's other errors and those of Save are passed on, too: a log without another position, and a page without another turn. Nothing of the frame is lost.
func TestNumbersThatAreUsedUp(t *testing.T) {
	for _, w := range ways {
		d := formatted(t, 3)
		if e := master.Save(d, api.Master{Gen: 2, First: most, Lsn: 1}); e != api.OK {
			t.Fatalf("Save of the master record is %d", e)
		}
		p := open(t, d, 3, 2)
		p.fetch(t, api.OK, 0, 1)
		lsn := p.set(t, 0, "a", "x")
		p.unpin(t, api.OK, 0)
		want := p.two.l.Force()
		if want == api.OK || want == api.ErrDown {
			t.Fatalf("Force without another position is %d", want)
		}
		for range 2 {
			p.do(t, w.name, want, w.call)
			p.wantNumbers(t, "no position", 0, 0, lsn, 0)
			p.wantSaved(t, "no position", 0, 0, 0)
		}

		d = formatted(t, 3)
		if e := slot.Save(d, start, 0, most, api.Page{}); e != api.OK {
			t.Fatalf("Save is %d", e)
		}
		p = open(t, d, 3, 2)
		p.fetch(t, api.OK, 0, 1)
		lsn = p.set(t, 0, "a", "x")
		p.unpin(t, api.OK, 0)
		for range 2 {
			p.do(t, w.name, api.ErrArg, w.call)
			p.wantNumbers(t, "no turn", 0, 0, lsn, most)
			p.wantSaved(t, "no turn", 0, most, 0)
			p.wantForced(t, "no turn", lsn)
		}
	}
}
