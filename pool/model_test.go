package pool_test

import (
	"bytes"
	"maps"
	"slices"
	"testing"

	"troth/api"
	"troth/disk"
	"troth/pool"
	"troth/slot"
	"troth/wal"
)

// What the chapter says of pools, written down once more, without the package.

const (
	most   = 1 << 40 // of an Lsn
	places = 4096    // of a base
	ring   = 64      // sectors of the tests' logs
	start  = 2 + ring
)

// buffer is what a pool does: this package's, or the model.
type buffer interface {
	Fetch(n int) api.Errno
	Unpin(n int) api.Errno
	Page(n int) (api.Page, api.Errno)
	Change(n, lsn int, key string, v api.Value) api.Errno
	Flush(n int) api.Errno
	Evict(n int) api.Errno
	Dirty() []api.Dirty
	Frames() []api.Frame
}

// held is a page that is in a frame.
type held struct {
	no, pins, rec, stamp, lsn int
	values                    map[string]api.Value
}

// page is what it has.
func (h *held) page() api.Page {
	p := api.Page{Lsn: h.lsn}
	for _, key := range slices.Sorted(maps.Keys(h.values)) {
		p.Cells = append(p.Cells, api.Cell{Key: key, Val: h.values[key]})
	}
	return p
}

// model is a pool as it should be.
type model struct {
	d                   *disk.Disk
	base, pages, frames int
	log                 *wal.Log
	held                []*held // that which was fetched least recently first
}

// at is where a page is among those that are held, -1 if it is not.
func (m *model) at(n int) int {
	return slices.IndexFunc(m.held, func(h *held) bool { return h.no == n })
}

// has tells whether there is a page, pinned or not.
func (m *model) has(n int) bool { return n >= 0 && n < m.pages }

// isPinned tells whether a page is.
func (m *model) isPinned(n int) bool { return m.at(n) >= 0 && m.held[m.at(n)].pins > 0 }

// back writes back what is held at a place.
func (m *model) back(at int) api.Errno {
	h := m.held[at]
	if h.rec == 0 {
		return api.OK
	}
	if m.log.Forced() < h.lsn {
		if e := m.log.Force(); e != api.OK {
			return e
		}
	}
	e := slot.Save(m.d, m.base, h.no, 1+h.stamp, h.page())
	if e == api.OK {
		h.stamp, h.rec = 1+h.stamp, 0
	}
	return e
}

// drop writes back what is held at a place, and lets it go.
func (m *model) drop(at int) api.Errno {
	e := m.back(at)
	if e == api.OK {
		m.held = slices.Delete(m.held, at, at+1)
	}
	return e
}

// take holds a page that is not held.
func (m *model) take(n int) api.Errno {
	if len(m.held) == m.frames {
		at := slices.IndexFunc(m.held, func(h *held) bool { return h.pins == 0 })
		if at < 0 {
			return api.ErrPool
		}
		if e := m.drop(at); e != api.OK {
			return e
		}
	}
	p, turn, e := slot.Load(m.d, m.base, n)
	if e != api.OK {
		return e
	}
	h := &held{no: n, stamp: turn, lsn: p.Lsn, values: map[string]api.Value{}}
	for _, c := range p.Cells {
		h.values[c.Key] = c.Val
	}
	m.held = append(m.held, h)
	return api.OK
}

func (m *model) Fetch(n int) api.Errno {
	if !m.has(n) {
		return api.ErrArg
	}
	if m.at(n) < 0 {
		if e := m.take(n); e != api.OK {
			return e
		}
	}
	at := m.at(n)
	h := m.held[at]
	m.held = append(slices.Delete(m.held, at, at+1), h)
	h.pins++
	return api.OK
}

func (m *model) Unpin(n int) api.Errno {
	if !m.has(n) {
		return api.ErrArg
	}
	if !m.isPinned(n) {
		return api.ErrPins
	}
	m.held[m.at(n)].pins--
	return api.OK
}

func (m *model) Page(n int) (api.Page, api.Errno) {
	if !m.has(n) {
		return api.Page{}, api.ErrArg
	}
	if !m.isPinned(n) {
		return api.Page{}, api.ErrPins
	}
	return m.held[m.at(n)].page(), api.OK
}

func (m *model) Change(n, lsn int, key string, v api.Value) api.Errno {
	if !m.has(n) {
		return api.ErrArg
	}
	if !m.isPinned(n) {
		return api.ErrPins
	}
	if key == "" || len(key) > 16 || len(v.Data) > 32 || (!v.Has && v.Data != "") || lsn < 1 || lsn > most {
		return api.ErrArg
	}
	h := m.held[m.at(n)]
	if _, is := h.values[key]; !is && len(h.values) == 4 {
		return api.ErrPage
	}
	h.values[key] = v
	h.lsn = lsn
	if h.rec == 0 {
		h.rec = lsn
	}
	return api.OK
}

func (m *model) Flush(n int) api.Errno {
	if !m.has(n) {
		return api.ErrArg
	}
	if m.at(n) < 0 {
		return api.OK
	}
	return m.back(m.at(n))
}

func (m *model) Evict(n int) api.Errno {
	if !m.has(n) {
		return api.ErrArg
	}
	if m.isPinned(n) {
		return api.ErrPins
	}
	if m.at(n) < 0 {
		return api.OK
	}
	return m.drop(m.at(n))
}

func (m *model) Dirty() []api.Dirty {
	var l []api.Dirty
	for n := range m.pages {
		if at := m.at(n); at >= 0 && m.held[at].rec > 0 {
			l = append(l, api.Dirty{Page: n, Rec: m.held[at].rec})
		}
	}
	return l
}

func (m *model) Frames() []api.Frame {
	var l []api.Frame
	for n := range m.pages {
		if at := m.at(n); at >= 0 {
			h := m.held[at]
			l = append(l, api.Frame{No: n, Pins: h.pins, Rec: h.rec, Stamp: h.stamp, Page: h.page()})
		}
	}
	return l
}

// samePage tells whether two pages are alike; a nil list is an empty one.
func samePage(a, b api.Page) bool { return a.Lsn == b.Lsn && slices.Equal(a.Cells, b.Cells) }

// sameFrame tells whether two frames are alike.
func sameFrame(a, b api.Frame) bool {
	return a.No == b.No && a.Pins == b.Pins && a.Rec == b.Rec && a.Stamp == b.Stamp && samePage(a.Page, b.Page)
}

// sameFrames tells whether two lists of frames are alike.
func sameFrames(a, b []api.Frame) bool { return slices.EqualFunc(a, b, sameFrame) }

// has is a value that there is.
func has(data string) api.Value { return api.Value{Has: true, Data: data} }

// made is a disk of a number of sectors that there may be.
func made(t *testing.T, sectors int) *disk.Disk {
	t.Helper()
	d, e := disk.New(sectors)
	if e != api.OK {
		t.Fatalf("New(%d) fails with %d", sectors, e)
	}
	return d
}

// fell makes a disk go down.
func fell(t *testing.T, d *disk.Disk) *disk.Disk {
	t.Helper()
	d.Fuse(0)
	if e := d.Sync(); e != api.ErrDown || !d.Down() {
		t.Fatalf("Sync with a fuse of 0 is %d, and Down %t", e, d.Down())
	}
	return d
}

// logOn is the log on a disk.
func logOn(t *testing.T, d *disk.Disk) *wal.Log {
	t.Helper()
	l, e := wal.Open(d, ring)
	if e != api.OK {
		t.Fatalf("Open fails with %d", e)
	}
	return l
}

// formatted is a disk with an empty log, and room for so many pages behind it.
func formatted(t *testing.T, pages int) *disk.Disk {
	t.Helper()
	d := made(t, start+2*pages)
	if e := wal.Format(d, ring); e != api.OK {
		t.Fatalf("Format fails with %d", e)
	}
	return d
}

// poolOn is an empty pool over the pages of a disk.
func poolOn(t *testing.T, d *disk.Disk, base, pages, frames int, l *wal.Log) *pool.Pool {
	t.Helper()
	p, e := pool.New(d, base, pages, frames, l)
	if e != api.OK || p == nil {
		t.Fatalf("New(%d, %d, %d) is %v, %d", base, pages, frames, p, e)
	}
	return p
}

// image is the contents of all sectors of a disk, pending writes included, also of one that is down.
func image(t *testing.T, d *disk.Disk) [][]byte {
	t.Helper()
	left := d.Crash(api.Crash{Keep: upTo(d.Pending())})
	var l [][]byte
	for n := range left.Sectors() {
		b, e := left.Read(n)
		if e != api.OK {
			t.Fatalf("Read(%d) fails with %d", n, e)
		}
		l = append(l, b)
	}
	return l
}

// alike tells whether two images are the same.
func alike(one, two [][]byte) bool { return slices.EqualFunc(one, two, bytes.Equal) }

// upTo is the numbers from 0 to n - 1.
func upTo(n int) []int {
	var l []int
	for i := range n {
		l = append(l, i)
	}
	return l
}

// site is a disk, the log on it, and a pool over both, or the model of one.
type site struct {
	d *disk.Disk
	l *wal.Log
	p buffer
}

// seen is what is seen of a site.
type seen struct {
	frames []api.Frame
	dirty  []api.Dirty
	rest   [6]int // Last, Forced and Forces of the log, Pending and Syncs of the disk, and whether it is down
}

func (s site) seen() seen {
	down := 0
	if s.d.Down() {
		down = 1
	}
	return seen{s.p.Frames(), s.p.Dirty(), [6]int{s.l.Last(), s.l.Forced(), s.l.Forces(), s.d.Pending(), s.d.Syncs(), down}}
}

func (a seen) same(b seen) bool {
	return sameFrames(a.frames, b.frames) && slices.Equal(a.dirty, b.dirty) && a.rest == b.rest
}

// pair is a pool and the model, each with a disk and a log of its own.
type pair struct {
	one, two      site
	pages, frames int
}

// fresh is an empty pool over pages that were never written.
func fresh(t *testing.T, pages, frames int) *pair {
	t.Helper()
	return open(t, formatted(t, pages), pages, frames)
}

// open is an empty pool over the pages of a copy of a disk, and the model over another one.
func open(t *testing.T, left *disk.Disk, pages, frames int) *pair {
	t.Helper()
	d, e := left.Crash(api.Crash{}), left.Crash(api.Crash{})
	l, m := logOn(t, d), logOn(t, e)
	one := site{d, l, poolOn(t, d, start, pages, frames, l)}
	two := site{e, m, &model{d: e, base: start, pages: pages, frames: frames, log: m}}
	return &pair{one, two, pages, frames}
}

// look fails if the pool is not as the model is, or breaks a promise.
func (p *pair) look(t *testing.T, what string) {
	t.Helper()
	one, two := p.one.seen(), p.two.seen()
	if !one.same(two) {
		t.Fatalf("%s: the pool has %+v; want %+v", what, one, two)
	}
	if len(one.frames) > p.frames {
		t.Fatalf("%s: there are %d frames; want at most %d", what, len(one.frames), p.frames)
	}
	for _, f := range one.frames {
		wantFrame(t, what, p.one, f)
	}
	// A log that is down does not tell what it had forced.
	if !p.one.d.Down() {
		wantAhead(t, what, p.one.d, p.one.l, p.pages)
	}
}

// wantFrame fails if a frame is not like what the disk has, as far as it is clean, or not like what Page is, if it is pinned.
func wantFrame(t *testing.T, what string, s site, f api.Frame) {
	t.Helper()
	saved, turn, e := slot.Load(s.d, start, f.No)
	if e == api.OK && (turn != f.Stamp || f.Rec == 0 && !samePage(saved, f.Page)) {
		t.Fatalf("%s: a frame is %+v, and the disk has the turn %d of %+v", what, f, turn, saved)
	}
	p, e := s.p.Page(f.No)
	if f.Pins == 0 && (e != api.ErrPins || !samePage(p, api.Page{})) || f.Pins > 0 && (e != api.OK || !samePage(p, f.Page)) {
		t.Fatalf("%s: a frame is %+v, and Page is %+v, %d", what, f, p, e)
	}
}

// wantAhead fails if a page on a disk has an Lsn that is greater than what a log has forced.
func wantAhead(t *testing.T, what string, d *disk.Disk, l *wal.Log, pages int) {
	t.Helper()
	for n := range pages {
		if p, _, e := slot.Load(d, start, n); e != api.OK || p.Lsn > l.Forced() {
			t.Fatalf("%s: page %d on the disk is %+v, %d, and the log has forced up to %d", what, n, p, e, l.Forced())
		}
	}
}

// do calls the pool and the model, and fails if they do not answer this error, or are not alike.
func (p *pair) do(t *testing.T, what string, want api.Errno, call func(b buffer) api.Errno) {
	t.Helper()
	if got, model := call(p.one.p), call(p.two.p); got != want || model != want {
		t.Fatalf("%s is %d, and %d for the model; want %d", what, got, model, want)
	}
	p.look(t, what)
}

// each does the same for some pages, one after the other.
func (p *pair) each(t *testing.T, what string, want api.Errno, l []int, call func(b buffer, n int) api.Errno) {
	t.Helper()
	for _, n := range l {
		p.do(t, what, want, func(b buffer) api.Errno { return call(b, n) })
	}
}

func (p *pair) fetch(t *testing.T, want api.Errno, l ...int) {
	t.Helper()
	p.each(t, "Fetch", want, l, buffer.Fetch)
}

func (p *pair) unpin(t *testing.T, want api.Errno, l ...int) {
	t.Helper()
	p.each(t, "Unpin", want, l, buffer.Unpin)
}

func (p *pair) flush(t *testing.T, want api.Errno, l ...int) {
	t.Helper()
	p.each(t, "Flush", want, l, buffer.Flush)
}

func (p *pair) evict(t *testing.T, want api.Errno, l ...int) {
	t.Helper()
	p.each(t, "Evict", want, l, buffer.Evict)
}

func (p *pair) page(t *testing.T, want api.Errno, l ...int) {
	t.Helper()
	for _, n := range l {
		var got []api.Page
		p.do(t, "Page", want, func(b buffer) api.Errno {
			page, e := b.Page(n)
			got = append(got, page)
			return e
		})
		if !samePage(got[0], got[1]) || want != api.OK && !samePage(got[0], api.Page{}) {
			t.Fatalf("Page(%d) is %+v; want %+v", n, got[0], got[1])
		}
	}
}

func (p *pair) change(t *testing.T, want api.Errno, n, lsn int, key string, v api.Value) {
	t.Helper()
	p.do(t, "Change", want, func(b buffer) api.Errno { return b.Change(n, lsn, key, v) })
}

// note appends so many records to both logs, and is the last one's LSN.
func (p *pair) note(t *testing.T, count int) int {
	t.Helper()
	for range count {
		for _, s := range []site{p.one, p.two} {
			if _, e := s.l.Append(api.Rec{Kind: api.RecForget, Tx: 7}, 0); e != api.OK {
				t.Fatalf("Append fails with %d", e)
			}
		}
	}
	return p.one.l.Last()
}

// force forces both logs.
func (p *pair) force(t *testing.T) {
	t.Helper()
	for _, s := range []site{p.one, p.two} {
		if e := s.l.Force(); e != api.OK {
			t.Fatalf("Force fails with %d", e)
		}
	}
}

// set changes a pinned page with the LSN of a new record.
func (p *pair) set(t *testing.T, n int, key, data string) int {
	t.Helper()
	lsn := p.note(t, 1)
	p.change(t, api.OK, n, lsn, key, has(data))
	return lsn
}

// wantHeld fails if other pages are in frames.
func (p *pair) wantHeld(t *testing.T, what string, want ...int) {
	t.Helper()
	var got []int
	for _, f := range p.one.p.Frames() {
		got = append(got, f.No)
	}
	if !slices.Equal(got, want) {
		t.Fatalf("%s: the pages %v are in frames; want %v", what, got, want)
	}
}

// wantNumbers fails if the frame of a page has other numbers.
func (p *pair) wantNumbers(t *testing.T, what string, n, pins, rec, stamp int) {
	t.Helper()
	for _, f := range p.one.p.Frames() {
		if f.No == n {
			if f.Pins != pins || f.Rec != rec || f.Stamp != stamp {
				t.Fatalf("%s: Pins, Rec and Stamp of page %d are %d, %d, %d; want %d, %d, %d", what, n, f.Pins, f.Rec, f.Stamp, pins, rec, stamp)
			}
			return
		}
	}
	t.Fatalf("%s: page %d is in no frame", what, n)
}

// wantForced fails if the logs have been forced up to another record.
func (p *pair) wantForced(t *testing.T, what string, want int) {
	t.Helper()
	if got := p.one.l.Forced(); got != want {
		t.Fatalf("%s: the log is forced up to %d; want %d", what, got, want)
	}
}

// wantSaved fails if a page on the disk is not in this turn, or has another Lsn.
func (p *pair) wantSaved(t *testing.T, what string, n, turn, lsn int) {
	t.Helper()
	got, is, e := slot.Load(p.one.d, start, n)
	if e != api.OK || is != turn || got.Lsn != lsn {
		t.Fatalf("%s: the disk has the turn %d of page %d, which is %+v, %d; want the turn %d and the Lsn %d", what, is, n, got, e, turn, lsn)
	}
}
