package pool_test

import (
	"slices"
	"strings"
	"testing"

	"troth/api"
	"troth/disk"
	"troth/pool"
	"troth/slot"
	"troth/wal"
)

// life is a pool each change of which has a record of its own in the log, over all crashes of their disk.
type life struct {
	d             *disk.Disk
	l             *wal.Log
	p             *pool.Pool
	pages, frames int
	versions      [][]api.Page // of each page, that which was never written first
	saved         []int        // the Lsn with which each page was last written
	forced        int          // the last record that is known to be forced
}

// born is a life of pages that were never written.
func born(t *testing.T, pages, frames int) *life {
	t.Helper()
	f := &life{d: formatted(t, pages), pages: pages, frames: frames, versions: make([][]api.Page, pages), saved: make([]int, pages)}
	for n := range f.versions {
		f.versions[n] = []api.Page{{}}
	}
	return f.over(t, f.d)
}

// over is a life that goes on with what a disk has.
func (f *life) over(t *testing.T, d *disk.Disk) *life {
	t.Helper()
	g := *f
	g.d, g.l = d, logOn(t, d)
	g.p = poolOn(t, d, start, f.pages, f.frames, g.l)
	g.versions, g.saved, g.forced = slices.Clone(f.versions), slices.Clone(f.saved), g.l.Last()
	return &g
}

// ok fails if a call is not OK.
func (f *life) ok(t *testing.T, what string, e api.Errno) {
	t.Helper()
	if e != api.OK {
		t.Fatalf("%s is %d; want OK", what, e)
	}
}

// keyOf is a key of a page.
func keyOf(n, i int) string { return string([]byte{'A' + byte(n), '0' + byte(i)}) }

// pageOf is the page of such a key.
func pageOf(key string) int { return int(key[0] - 'A') }

// last is the newest version of a page.
func (f *life) last(n int) api.Page { return f.versions[n][len(f.versions[n])-1] }

// set changes one of a pinned page's four keys, with a record of its own.
func (f *life) set(t *testing.T, n, i int, v api.Value) {
	t.Helper()
	key := keyOf(n, i)
	lsn, e := f.l.Append(api.Rec{Kind: api.RecUpdate, Tx: 1, Key: key, New: v}, 0)
	f.ok(t, "Append", e)
	f.ok(t, "Change", f.p.Change(n, lsn, key, v))
	next := api.Page{Lsn: lsn}
	for _, c := range f.last(n).Cells {
		if c.Key != key {
			next.Cells = append(next.Cells, c)
		}
	}
	next.Cells = append(next.Cells, api.Cell{Key: key, Val: v})
	slices.SortFunc(next.Cells, func(a, b api.Cell) int { return strings.Compare(a.Key, b.Key) })
	f.versions[n] = append(f.versions[n], next)
}

// sets changes a page, which is fetched ahead and unpinned behind, so many times.
func (f *life) sets(t *testing.T, n, times int) {
	t.Helper()
	f.ok(t, "Fetch", f.p.Fetch(n))
	for i := range times {
		f.set(t, n, i%4, has(strings.Repeat("v", 20+i%5)))
	}
	f.ok(t, "Unpin", f.p.Unpin(n))
	f.look(t, "set")
}

// look fails if a pool that is up has other pages than were made, or a page is on the disk ahead of the log. It notes what lasts.
func (f *life) look(t *testing.T, what string) {
	t.Helper()
	frames := f.p.Frames()
	if len(frames) > f.frames {
		t.Fatalf("%s: there are %d frames; want at most %d", what, len(frames), f.frames)
	}
	held := map[int]api.Frame{}
	for _, fr := range frames {
		held[fr.No] = fr
		if !samePage(fr.Page, f.last(fr.No)) {
			t.Fatalf("%s: a frame is %+v; its page should be %+v", what, fr, f.last(fr.No))
		}
	}
	f.forced = f.l.Forced()
	for n := range f.pages {
		p, turn, e := slot.Load(f.d, start, n)
		if e != api.OK || p.Lsn > f.forced || !slices.ContainsFunc(f.versions[n], func(v api.Page) bool { return samePage(p, v) }) {
			t.Fatalf("%s: page %d on the disk is %+v, %d, and the log has forced up to %d", what, n, p, e, f.forced)
		}
		f.saved[n] = p.Lsn
		fr, is := held[n]
		if (!is || fr.Rec == 0) != samePage(p, f.last(n)) || is && fr.Stamp != turn {
			t.Fatalf("%s: page %d on the disk has the turn %d of %+v, and its frame is %+v; want %+v", what, n, turn, p, fr, f.last(n))
		}
		at := slices.IndexFunc(f.versions[n], func(v api.Page) bool { return v.Lsn > p.Lsn })
		if is && fr.Rec > 0 && (at < 0 || fr.Rec != f.versions[n][at].Lsn) {
			t.Fatalf("%s: a frame is %+v; its page was written with the Lsn %d", what, fr, p.Lsn)
		}
	}
}

// survived fails if what a crash left does not have the records that were forced, and of each page the version that was last written, or one that came later but is not ahead of the log. It is what the records make of that.
func (f *life) survived(t *testing.T, what string, left *disk.Disk) *life {
	t.Helper()
	g := f.over(t, left)
	if g.l.Last() < f.forced {
		t.Fatalf("%s: the log ends with %d; up to %d it was forced", what, g.l.Last(), f.forced)
	}
	for n := range g.pages {
		p, _, e := slot.Load(left, start, n)
		if e != api.OK || p.Lsn > g.l.Last() || p.Lsn < f.saved[n] || !slices.ContainsFunc(f.versions[n], func(v api.Page) bool { return samePage(p, v) }) {
			t.Fatalf("%s: page %d is left as %+v, %d; it was last written with the Lsn %d, and the log ends with %d", what, n, p, e, f.saved[n], g.l.Last())
		}
		kept := slices.IndexFunc(f.versions[n], func(v api.Page) bool { return v.Lsn > g.l.Last() })
		if kept >= 0 {
			g.versions[n] = slices.Clone(f.versions[n][:kept])
		}
		g.saved[n] = p.Lsn
	}
	g.redo(t, what)
	return g
}

// redo makes the changes once more that are in the log and not in the pages, and fails if they do not make what there was.
func (f *life) redo(t *testing.T, what string) {
	t.Helper()
	for lsn := f.l.First(); lsn <= f.l.Last(); lsn++ {
		r, e := f.l.Get(lsn)
		f.ok(t, "Get", e)
		n := pageOf(r.Key)
		f.ok(t, "Fetch", f.p.Fetch(n))
		p, e := f.p.Page(n)
		f.ok(t, "Page", e)
		if p.Lsn < lsn {
			f.ok(t, "Change", f.p.Change(n, lsn, r.Key, r.New))
		}
		f.ok(t, "Unpin", f.p.Unpin(n))
	}
	f.wantAll(t, what+", redone")
}

// wantAll fetches all pages, and fails if one is not as it was changed last.
func (f *life) wantAll(t *testing.T, what string) {
	t.Helper()
	for n := range f.pages {
		f.ok(t, "Fetch", f.p.Fetch(n))
		if p, e := f.p.Page(n); e != api.OK || !samePage(p, f.last(n)) {
			t.Fatalf("%s: page %d is %+v, %d; want %+v", what, n, p, e, f.last(n))
		}
		f.ok(t, "Unpin", f.p.Unpin(n))
	}
	f.look(t, what)
}

// P12.4: pages that are changed, written back and loaded again and again, with one frame, some, and as many as there are pages.
func TestChangesLast(t *testing.T) {
	t.Parallel()
	for _, frames := range []int{1, 2, 3, 5, 64} {
		f := born(t, 5, frames)
		var r draw
		for i := range 400 {
			n := r.below(5)
			f.ok(t, "Fetch", f.p.Fetch(n))
			if p, e := f.p.Page(n); e != api.OK || !samePage(p, f.last(n)) {
				t.Fatalf("with %d frames, page %d is %+v, %d behind %d steps; want %+v", frames, n, p, e, i, f.last(n))
			}
			f.set(t, n, r.below(4), r.value())
			if r.below(4) == 0 {
				f.ok(t, "Flush", f.p.Flush(n))
			}
			f.ok(t, "Unpin", f.p.Unpin(n))
			if r.below(4) == 0 {
				f.ok(t, "Evict", f.p.Evict(r.below(5)))
			}
			f.look(t, "a life")
			f.trim(t)
		}
		f.wantAll(t, "all steps")
		g := f.survived(t, "all steps", f.d.Crash(api.Crash{}))
		for n := range g.pages {
			g.ok(t, "Flush", g.p.Flush(n))
			g.ok(t, "Evict", g.p.Evict(n))
		}
		if got := g.p.Frames(); len(got) != 0 {
			t.Fatalf("all are evicted, and the frames are %v", got)
		}
		g.wantAll(t, "all evicted")
	}
}

// trim lets go the beginning of a log that is full, up to the first record that a dirty page needs.
func (f *life) trim(t *testing.T) {
	t.Helper()
	if f.l.Room() > ring/2 {
		return
	}
	f.ok(t, "Force", f.l.Force())
	keep := f.l.Forced()
	for _, dirty := range f.p.Dirty() {
		if dirty.Rec < f.l.First() {
			t.Fatalf("Dirty has %v, and the log begins with %d", dirty, f.l.First())
		}
		keep = min(keep, dirty.Rec)
	}
	f.ok(t, "Mark", f.l.Mark(0, keep))
	f.look(t, "Mark")
	// A page that stays dirty for long keeps the log from being trimmed.
	for _, dirty := range f.p.Dirty() {
		if f.l.Room() < ring/2 {
			f.ok(t, "Flush", f.p.Flush(dirty.Page))
		}
	}
}
