package wal_test

import (
	"bytes"
	"fmt"
	"math"
	"slices"
	"strings"
	"testing"

	"troth/api"
	"troth/disk"
	"troth/master"
	"troth/rec"
	"troth/sheet"
	"troth/wal"
)

// What the chapter says of logs, written down once more, without the package.

const (
	most   = 1 << 40 // of numbers that are stored
	full   = 242     // bytes of a sheet
	longer = 4096    // bytes of a record
)

// model is a log as it should be.
type model struct {
	count  int
	master api.Master
	bodies []string // of the records from master.Lsn on
	begins []int    // the positions of the sheets in which those begin that were forced
	next   int      // the position of the sheet that is written next
	forces int
}

func (m *model) first() int  { return m.master.Lsn }
func (m *model) last() int   { return m.first() + len(m.bodies) - 1 }
func (m *model) forced() int { return m.first() + len(m.begins) - 1 }

// waiting is the bodies of the records that were not forced, and of more behind them.
func (m *model) waiting(more ...string) [][]byte {
	var bodies [][]byte
	for _, body := range slices.Concat(m.bodies[len(m.begins):], more) {
		bodies = append(bodies, []byte(body))
	}
	return bodies
}

// laid is the sheets that Force should write.
func (m *model) laid() []api.Sheet {
	l, _ := sheet.Lay(m.master.Inc, m.next, m.waiting())
	return l
}

// usedWith is how many sheets are used if these bodies are appended.
func (m *model) usedWith(more ...string) int {
	// There may be no position behind the last one that is used, so the sheets are counted elsewhere.
	l, _ := sheet.Lay(0, 0, m.waiting(more...))
	return m.next - m.master.First + len(l)
}

func (m *model) used() int { return m.usedWith() }
func (m *model) room() int { return m.count - m.used() }

// append is what Append should return.
func (m *model) append(r api.Rec, spare int) (int, api.Errno) {
	body, e := rec.Encode(r)
	if e != api.OK {
		return 0, e
	}
	if free := m.count - m.usedWith(string(body)); free < 0 || spare > free {
		return 0, api.ErrLog
	}
	m.bodies = append(m.bodies, string(body))
	return m.last(), api.OK
}

// force is what a Force does whose disk stays up.
func (m *model) force() {
	l := m.laid()
	for _, found := range sheet.Find(l) {
		m.begins = append(m.begins, m.next+found.Sheet)
	}
	m.next += len(l)
	m.forces += min(len(l), 1)
}

// mark is what Mark should return if its disk stays up.
func (m *model) mark(check, keep int) api.Errno {
	in := func(lsn int) bool { return m.first() <= lsn && lsn <= m.forced() }
	if !in(keep) || (check != 0 && !in(check)) {
		return api.ErrLsn
	}
	m.master.Gen++
	m.master.Check = check
	m.master.First = m.begins[keep-m.first()]
	for m.begins[0] < m.master.First {
		m.begins, m.bodies = m.begins[1:], m.bodies[1:]
		m.master.Lsn++
	}
	return api.OK
}

// copy is a model that is like this one.
func (m *model) copy() *model {
	c := *m
	c.bodies, c.begins = slices.Clone(m.bodies), slices.Clone(m.begins)
	return &c
}

// sheetAt is the sheet in a sector, if there is one in it.
func sheetAt(sector []byte) (api.Sheet, bool) {
	mark, first, long := sector[0], int(sector[11]), int(sector[12])
	if mark != sector[255] || mark < 1 || mark > 3 || long > full || first > long && first != 255 {
		return api.Sheet{}, false
	}
	var numbers [2]int
	for i, c := range sector[1:11] {
		numbers[i/5] = numbers[i/5]*256 + int(c)
	}
	return api.Sheet{Inc: numbers[0], Pos: numbers[1], First: first, Data: string(sector[13 : 13+long])}, true
}

// modelOn is the log that opening a disk should yield.
func modelOn(t *testing.T, d *disk.Disk, count int) *model {
	t.Helper()
	m, e := master.Load(d)
	if e != api.OK {
		t.Fatalf("Load fails with %d", e)
	}
	var l []api.Sheet
	for len(l) < count {
		s, is := sheetAt(sectorOn(t, d, 2+(m.First+len(l))%count))
		if !is || s.Pos != m.First+len(l) || s.Inc > m.Inc || (len(l) > 0 && s.Inc < l[len(l)-1].Inc) {
			break
		}
		l = append(l, s)
	}
	made := &model{count: count, master: m, next: m.First + len(l)}
	made.master.Gen++
	made.master.Inc++
	for _, found := range sheet.Find(l) {
		if _, e := rec.Decode([]byte(found.Body)); e != api.OK {
			break
		}
		made.bodies = append(made.bodies, found.Body)
		made.begins = append(made.begins, m.First+found.Sheet)
	}
	return made
}

// made is a disk of a number of sectors that there may be.
func made(t *testing.T, sectors int) *disk.Disk {
	t.Helper()
	d, e := disk.New(sectors)
	if e != api.OK {
		t.Fatalf("New(%d) fails with %d", sectors, e)
	}
	return d
}

// formatted is a disk with an empty log.
func formatted(t *testing.T, count int) *disk.Disk {
	t.Helper()
	d := made(t, 2+count)
	if e := wal.Format(d, count); e != api.OK {
		t.Fatalf("Format with %d sectors fails with %d", count, e)
	}
	return d
}

// fallen makes a disk go down.
func fallen(t *testing.T, d *disk.Disk) *disk.Disk {
	t.Helper()
	d.Fuse(0)
	if e := d.Sync(); e != api.ErrDown || !d.Down() {
		t.Fatalf("Sync with a fuse of 0 is %d, and Down %t", e, d.Down())
	}
	return d
}

// sectorOn is the content of a sector.
func sectorOn(t *testing.T, d *disk.Disk, n int) []byte {
	t.Helper()
	b, e := d.Read(n)
	if e != api.OK {
		t.Fatalf("Read(%d) fails with %d", n, e)
	}
	return b
}

// sectorsOn is the contents of all sectors.
func sectorsOn(t *testing.T, d *disk.Disk) [][]byte {
	t.Helper()
	var l [][]byte
	for n := range d.Sectors() {
		l = append(l, sectorOn(t, d, n))
	}
	return l
}

// wantOnly fails if other sectors have changed than these.
func wantOnly(t *testing.T, what string, before, after [][]byte, changed ...int) {
	t.Helper()
	for n := range before {
		if is := !bytes.Equal(before[n], after[n]); is != slices.Contains(changed, n) {
			t.Errorf("%s: sector %d is changed: %t; the sectors %v should be, and no others", what, n, is, changed)
		}
	}
}

// store writes a sector, as it is, and synchronizes.
func store(t *testing.T, d *disk.Disk, n int, sector []byte) {
	t.Helper()
	if e := d.Write(n, sector); e != api.OK {
		t.Fatalf("Write(%d) fails with %d", n, e)
	}
	if e := d.Sync(); e != api.OK {
		t.Fatalf("Sync fails with %d", e)
	}
}

// stamped is a sector with a payload between two stamps, or with as much of it as there is room for.
func stamped(mark byte, payload []byte) []byte {
	payload = payload[:min(len(payload), 254)]
	return slices.Concat([]byte{mark}, payload, make([]byte, 254-len(payload)), []byte{mark})
}

// payloadOf is what the payload of a sheet would be, whether or not it is valid.
func payloadOf(s api.Sheet) []byte {
	var b []byte
	for _, n := range []int{s.Inc, s.Pos} {
		for shift := 32; shift >= 0; shift -= 8 {
			b = append(b, byte(n>>shift))
		}
	}
	b = append(b, byte(s.First), byte(len(s.Data)))
	return append(b, s.Data...)
}

// recordOf is a record that is encoded in n bytes, up to some 6000. Those of up to 90 seeds are different, from 2 bytes on.
func recordOf(n, seed int) api.Rec {
	seed = 1 + seed%90
	switch {
	case n == 1:
		return api.Rec{Kind: api.RecBegin}
	case n == 2:
		return api.Rec{Kind: api.RecForget, Tx: seed}
	case n == 3:
		return api.Rec{Kind: api.RecEnd, Tx: seed, Prev: seed}
	case n < 8:
		return api.Rec{Kind: api.RecCommit, Tx: 128 + seed, Prev: 1 << (7 * (n - 4))}
	case n < 88:
		return updateOf(n, seed)
	default:
		return checkpointOf(n, seed)
	}
}

// updateOf is a record of 7 to 88 bytes.
func updateOf(n, seed int) api.Rec {
	r := api.Rec{Kind: api.RecUpdate, Tx: seed, Prev: seed}
	rest := n - 6
	for _, v := range []*api.Value{&r.Old, &r.New} {
		if rest > api.MaxKey {
			*v = api.Value{Has: true, Data: strings.Repeat("v", min(rest-api.MaxKey-1, api.MaxValue))}
			rest -= 1 + len(v.Data)
		}
	}
	r.Key = strings.Repeat("k", rest)
	return r
}

// checkpointOf is a record of 88 bytes or more.
func checkpointOf(n, seed int) api.Rec {
	r := api.Rec{Kind: api.RecCheck}
	rest := n - 5
	for rest >= 8+18 {
		row := api.Row{Tx: 1 + len(r.Rows), State: api.Prepared, First: seed, Last: seed, Undo: seed, Coord: 7}
		for range min(api.MaxLocks, (rest-8)/18) {
			row.Locks = append(row.Locks, api.Lock{Key: fmt.Sprintf("%016d", len(row.Locks)), X: true})
		}
		rest -= 8 + 18*len(row.Locks)
		r.Rows = append(r.Rows, row)
	}
	for i := range rest {
		r.Past = append(r.Past, seed+i)
	}
	return r
}

// bodyOf is the encoding of such a record.
func bodyOf(t *testing.T, r api.Rec) string {
	t.Helper()
	b, e := rec.Encode(r)
	if e != api.OK {
		t.Fatalf("Encode of %+v fails with %d", r, e)
	}
	return string(b)
}

// The records of the tests have as many bytes as they say.
func TestRecordOf(t *testing.T) {
	t.Parallel()
	for n := 1; n <= longer; n++ {
		for _, seed := range []int{0, 1, 89} {
			if r := recordOf(n, seed); rec.Size(r) != n {
				t.Fatalf("recordOf(%d, %d) has %d bytes: %+v", n, seed, rec.Size(r), r)
			}
		}
		if n > 1 && bodyOf(t, recordOf(n, 1)) == bodyOf(t, recordOf(n, 2)) {
			t.Fatalf("records of %d bytes are alike", n)
		}
	}
	for n := longer + 1; n < longer+50; n++ {
		if _, e := rec.Encode(recordOf(n, 1)); e != api.ErrLong {
			t.Fatalf("Encode of recordOf(%d) is %d; want ErrLong", n, e)
		}
	}
}

// isZero tells whether a record is the zero record.
func isZero(r api.Rec) bool {
	return r.Kind == 0 && r.Tx == 0 && r.Prev == 0 && r.Next == 0 && r.Key == "" && r.Old == (api.Value{}) && r.New == (api.Value{}) && r.Coord == 0 &&
		len(r.Members)+len(r.Locks)+len(r.Rows)+len(r.Dirty)+len(r.Deeds)+len(r.Past) == 0
}

// wantGet fails if Get is not the record with this body, and OK.
func wantGet(t *testing.T, what string, l *wal.Log, lsn int, body string) {
	t.Helper()
	r, e := l.Get(lsn)
	if e != api.OK {
		t.Fatalf("%s: Get(%d) fails with %d", what, lsn, e)
	}
	if bodyOf(t, r) != body {
		t.Fatalf("%s: Get(%d) is %+v, with the encoding %v; want %v", what, lsn, r, []byte(bodyOf(t, r)), []byte(body))
	}
}

// wantNotGot fails if Get is another error than this one, or not the zero record.
func wantNotGot(t *testing.T, what string, l *wal.Log, lsn int, want api.Errno) {
	t.Helper()
	if r, e := l.Get(lsn); e != want || !isZero(r) {
		t.Fatalf("%s: Get(%d) is %+v, %d; want the zero record, %d", what, lsn, r, e, want)
	}
}

// numbersOf is what the methods tell that return a number: First, Last, Forced, Check, Used, Room, Forces and Inc.
func numbersOf(l *wal.Log) [8]int {
	return [8]int{l.First(), l.Last(), l.Forced(), l.Check(), l.Used(), l.Room(), l.Forces(), l.Inc()}
}

// wantNumbers fails if a number is not as it should be.
func wantNumbers(t *testing.T, what string, l *wal.Log, m *model) {
	t.Helper()
	want := [8]int{m.first(), m.last(), m.forced(), m.master.Check, m.used(), m.room(), m.forces, m.master.Inc}
	if got := numbersOf(l); got != want {
		t.Fatalf("%s: First, Last, Forced, Check, Used, Room, Forces and Inc are %v; want %v", what, got, want)
	}
}

// wantLog fails if a log is not as it should be.
func wantLog(t *testing.T, what string, l *wal.Log, m *model) {
	t.Helper()
	wantNumbers(t, what, l, m)
	for i, body := range m.bodies {
		wantGet(t, what, l, m.first()+i, body)
	}
	for _, lsn := range []int{m.first() - 1, m.last() + 1, -1, math.MinInt, math.MaxInt} {
		wantNotGot(t, what, l, lsn, api.ErrLsn)
	}
}

// pair is a log, its disk, and what it should be.
type pair struct {
	d *disk.Disk
	l *wal.Log
	m *model
}

// open opens the log on a disk, which should succeed and yield what is on the disk.
func open(t *testing.T, d *disk.Disk, count int) *pair {
	t.Helper()
	m := modelOn(t, d, count)
	l, e := wal.Open(d, count)
	if e != api.OK || l == nil {
		t.Fatalf("Open fails with %d", e)
	}
	p := &pair{d, l, m}
	p.wantMaster(t, "Open")
	wantLog(t, "Open", l, m)
	return p
}

// fresh is an empty log, opened.
func fresh(t *testing.T, count int) *pair {
	t.Helper()
	return open(t, formatted(t, count), count)
}

// wantMaster fails if the master record on the disk is not the log's, or something is not synchronized.
func (p *pair) wantMaster(t *testing.T, what string) {
	t.Helper()
	if m, e := master.Load(p.d); e != api.OK || m != p.m.master || p.d.Pending() != 0 {
		t.Fatalf("%s: the master record is %+v, %d, with %d writes pending; want %+v", what, m, e, p.d.Pending(), p.m.master)
	}
}

// append appends a record, which may be refused where the model refuses it.
func (p *pair) append(t *testing.T, r api.Rec, spare int) api.Errno {
	t.Helper()
	want, wantE := p.m.append(r, spare)
	if lsn, e := p.l.Append(r, spare); lsn != want || e != wantE {
		t.Fatalf("Append with %d spare is %d, %d; want %d, %d", spare, lsn, e, want, wantE)
	}
	wantNumbers(t, "Append", p.l, p.m)
	return wantE
}

// add appends records, which should succeed.
func (p *pair) add(t *testing.T, records ...api.Rec) {
	t.Helper()
	for _, r := range records {
		if e := p.append(t, r, 0); e != api.OK {
			t.Fatalf("Append fails with %d, with %d of %d sheets used", e, p.m.used(), p.m.count)
		}
	}
}

// addSizes appends records of so many bytes each.
func (p *pair) addSizes(t *testing.T, sizes ...int) {
	t.Helper()
	for _, n := range sizes {
		p.add(t, recordOf(n, p.m.last()))
	}
}

// force forces the log, which should succeed, and looks at what it wrote.
func (p *pair) force(t *testing.T) {
	t.Helper()
	before, syncs, sheets := sectorsOn(t, p.d), p.d.Syncs(), p.m.laid()
	p.m.force()
	if e := p.l.Force(); e != api.OK {
		t.Fatalf("Force fails with %d", e)
	}
	if p.d.Pending() != 0 || p.d.Syncs() != syncs+min(len(sheets), 1) {
		t.Fatalf("Force of %d sheets leaves %d writes pending, behind %d synchronizations", len(sheets), p.d.Pending(), p.d.Syncs()-syncs)
	}
	after := sectorsOn(t, p.d)
	var changed []int
	for _, s := range sheets {
		n := 2 + s.Pos%p.m.count
		changed = append(changed, n)
		want := stamped(after[n][0], payloadOf(s))
		if !bytes.Equal(after[n], want) || after[n][0] == before[n][0] {
			t.Fatalf("Force writes %v into sector %d, over one with the stamp %d; want %v", after[n], n, before[n][0], want)
		}
	}
	wantOnly(t, "Force", before, after, changed...)
	wantLog(t, "Force", p.l, p.m)
	p.wantMaster(t, "Force")
}

// mark marks the log, which should do what the model does, and looks at what it wrote.
func (p *pair) mark(t *testing.T, check, keep int) api.Errno {
	t.Helper()
	before, syncs, used := sectorsOn(t, p.d), p.d.Syncs(), p.m.used()
	want := p.m.mark(check, keep)
	if e := p.l.Mark(check, keep); e != want {
		t.Fatalf("Mark(%d, %d) is %d; want %d", check, keep, e, want)
	}
	if want == api.OK {
		wantOnly(t, "Mark", before, sectorsOn(t, p.d), p.m.master.Gen%2)
		syncs++
	} else {
		wantOnly(t, "Mark", before, sectorsOn(t, p.d))
	}
	if p.d.Syncs() != syncs || p.m.used() > used {
		t.Fatalf("Mark(%d, %d) synchronizes %d times; %d sheets are used, and were %d", check, keep, p.d.Syncs()-syncs, p.m.used(), used)
	}
	wantLog(t, "Mark", p.l, p.m)
	p.wantMaster(t, "Mark")
	return want
}

// reopen opens the log again behind a crash that loses nothing that was synchronized.
func (p *pair) reopen(t *testing.T) *pair {
	t.Helper()
	return open(t, p.d.Crash(api.Crash{}), p.m.count)
}

// wantReopened fails if the log, opened again, does not have the records that were forced, and only those.
func (p *pair) wantReopened(t *testing.T, what string) *pair {
	t.Helper()
	again := p.reopen(t)
	want := p.m.copy()
	want.bodies = want.bodies[:len(want.begins)]
	want.forces = 0
	want.master.Gen++
	want.master.Inc++
	wantLog(t, what+", opened again", again.l, want)
	again.wantMaster(t, what+", opened again")
	return again
}

// draw draws numbers without a pattern, always the same ones.
type draw struct{ state uint64 }

func (d *draw) below(n int) int {
	d.state = d.state*6364136223846793005 + 1442695040888963407
	return int(d.state >> 33 % uint64(n))
}

func pick[T any](d *draw, l []T) T { return l[d.below(len(l))] }
