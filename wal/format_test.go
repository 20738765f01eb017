package wal_test

import (
	"bytes"
	"math"
	"slices"
	"testing"

	"troth/api"
	"troth/disk"
	"troth/master"
	"troth/wal"
)

// goodCounts and badCounts are of sectors that a log may have, and that it may not have.
var (
	goodCounts = []int{8, 9, 64, 1023, 1024}
	badCounts  = []int{7, 1025, 0, 1, -1, -8, 2048, 4096, 8 + 1<<32, math.MinInt, math.MinInt + 8, math.MaxInt}
)

// used is a disk on which every sector has some bytes.
func used(t *testing.T, sectors int) *disk.Disk {
	t.Helper()
	d := made(t, sectors)
	for n := range sectors {
		store(t, d, n, bytes.Repeat([]byte{byte(4 + n%200)}, 256))
	}
	return d
}

// P9.1: the chapter's example.
func TestExample(t *testing.T) {
	d := made(t, 2+8)
	if e := wal.Format(d, 8); e != api.OK {
		t.Fatalf("Format is %d", e)
	}
	l, e := wal.Open(d, 8)
	if e != api.OK || l.First() != 1 || l.Last() != 0 || l.Used() != 0 {
		t.Fatalf("Open is %d, and First, Last and Used are %d, %d, %d; want OK, 1, 0, 0", e, l.First(), l.Last(), l.Used())
	}
	if lsn, e := l.Append(api.Rec{Kind: api.RecBegin}, 0); lsn != 1 || e != api.OK {
		t.Errorf("Append is %d, %d; want 1, OK", lsn, e)
	}
	if e := l.Force(); e != api.OK || l.Used() != 1 {
		t.Errorf("Force is %d, and Used %d; want OK, 1", e, l.Used())
	}
}

// P9.1: Format writes the first master record, and nothing else.
func TestFormat(t *testing.T) {
	for _, count := range goodCounts {
		for sectors := 2 + count; sectors <= 3+count; sectors++ {
			for _, d := range []*disk.Disk{made(t, sectors), used(t, sectors)} {
				before, syncs := sectorsOn(t, d), d.Syncs()
				if e := wal.Format(d, count); e != api.OK {
					t.Fatalf("Format of %d sectors with %d is %d; want OK", sectors, count, e)
				}
				if d.Pending() != 0 || d.Syncs() != syncs+1 {
					t.Errorf("Format leaves %d writes pending, behind %d synchronizations", d.Pending(), d.Syncs()-syncs)
				}
				after := sectorsOn(t, d)
				wantOnly(t, "Format", before, after, 1)
				if want := stamped(after[1][0], []byte{1, 0, 0, 1, 0}); !bytes.Equal(after[1], want) {
					t.Errorf("Format writes %v; want %v", after[1], want)
				}
				if m, e := master.Load(d); e != api.OK || m != (api.Master{Gen: 1, Lsn: 1}) {
					t.Errorf("the master record is %+v, %d", m, e)
				}
				wantLog(t, "Format", open(t, d, count).l, &model{count: count, master: api.Master{Gen: 2, Inc: 1, Lsn: 1}})
			}
		}
	}
}

// P9.1: a disk that is formatted twice has an empty log, too.
func TestFormatTwice(t *testing.T) {
	d := formatted(t, 8)
	if e := wal.Format(d, 8); e != api.OK {
		t.Fatalf("Format is %d", e)
	}
	wantLog(t, "Format twice", open(t, d, 8).l, &model{count: 8, master: api.Master{Gen: 2, Inc: 1, Lsn: 1}})
}

// wantNotFormatted fails if Format is another error than this one, or changes something.
func wantNotFormatted(t *testing.T, what string, d *disk.Disk, count int, want api.Errno) {
	t.Helper()
	pending, syncs := d.Pending(), d.Syncs()
	if e := wal.Format(d, count); e != want {
		t.Errorf("%s: Format with %d is %d; want %d", what, count, e, want)
	}
	if d.Pending() != pending || d.Syncs() != syncs {
		t.Errorf("%s: Format with %d writes", what, count)
	}
}

// P9.1 and P0.2: Format's errors, and their order: the count, a nil disk, too few sectors, and the power.
func TestFormatErrors(t *testing.T) {
	for _, count := range badCounts {
		wantNotFormatted(t, "no disk", nil, count, api.ErrArg)
		wantNotFormatted(t, "a small disk", made(t, 1), count, api.ErrArg)
		wantNotFormatted(t, "a large disk", made(t, 4096), count, api.ErrArg)
		wantNotFormatted(t, "a disk that is down", fallen(t, made(t, 4096)), count, api.ErrArg)
	}
	for _, count := range goodCounts {
		wantNotFormatted(t, "no disk", nil, count, api.ErrNil)
		for _, sectors := range []int{1, 2, count, 1 + count} {
			wantNotFormatted(t, "a small disk", made(t, sectors), count, api.ErrArg)
			wantNotFormatted(t, "a small disk that is down", fallen(t, made(t, sectors)), count, api.ErrArg)
		}
		for _, sectors := range []int{2 + count, 3 + count, 4096} {
			wantNotFormatted(t, "a disk that is down", fallen(t, made(t, sectors)), count, api.ErrDown)
		}
	}
}

// wantNotOpened fails if Open is another error than this one, or a log, or changes something.
func wantNotOpened(t *testing.T, what string, d *disk.Disk, count int, want api.Errno) {
	t.Helper()
	pending, syncs := d.Pending(), d.Syncs()
	if l, e := wal.Open(d, count); e != want || l != nil {
		t.Errorf("%s: Open with %d is %v, %d; want nil, %d", what, count, l, e, want)
	}
	if d.Pending() != pending || d.Syncs() != syncs {
		t.Errorf("%s: Open with %d writes", what, count)
	}
}

// P9.1 and P0.2: Open's errors, and their order: a nil disk, the count or too few sectors, and the power.
func TestOpenErrors(t *testing.T) {
	for _, count := range slices.Concat(goodCounts, badCounts) {
		wantNotOpened(t, "no disk", nil, count, api.ErrNil)
	}
	for _, count := range badCounts {
		wantNotOpened(t, "a small disk", made(t, 1), count, api.ErrArg)
		wantNotOpened(t, "a disk that is not formatted", made(t, 4096), count, api.ErrArg)
		wantNotOpened(t, "a formatted disk", formatted(t, 1024), count, api.ErrArg)
		wantNotOpened(t, "a disk that is down", fallen(t, formatted(t, 1024)), count, api.ErrArg)
	}
	for _, count := range goodCounts {
		wantNotOpened(t, "a disk that is not formatted", made(t, 2+count), count, api.ErrLost)
		wantNotOpened(t, "a disk that is not formatted, and down", fallen(t, made(t, 2+count)), count, api.ErrDown)
		wantNotOpened(t, "a formatted disk that is down", fallen(t, formatted(t, count)), count, api.ErrDown)
		for _, sectors := range []int{1, 2, 1 + count} {
			wantNotOpened(t, "a small disk", made(t, sectors), count, api.ErrArg)
			wantNotOpened(t, "a small disk that is down", fallen(t, made(t, sectors)), count, api.ErrArg)
		}
		if count > 8 {
			d := formatted(t, count-1)
			wantNotOpened(t, "a formatted disk that is too small", d, count, api.ErrArg)
			open(t, d, count-1)
		}
	}
}

// P9.1: a disk that has no master record, or one in either sector only.
func TestOpenWithSpoiltMaster(t *testing.T) {
	torn := slices.Concat([]byte{1}, make([]byte, 254), []byte{2})
	for _, spoilt := range [][]byte{torn, make([]byte, 256), stamped(1, []byte{0}), stamped(2, []byte{128, 2, 3, 4, 5})} {
		for _, gens := range []int{1, 2, 5, 6} {
			d := formatted(t, 8)
			for range gens {
				p := open(t, d, 8)
				p.addSizes(t, 12)
				p.force(t)
			}
			// Format saves Gen 1, and each opening the next one.
			newest := (1 + gens) % 2
			d = d.Crash(api.Crash{})
			store(t, d, 1-newest, spoilt)
			if p := open(t, d, 8); p.l.Inc() != gens+1 || p.l.Last() != gens {
				t.Errorf("behind %d openings and one with the older master record spoilt, Inc is %d, and Last %d", gens, p.l.Inc(), p.l.Last())
			}
			store(t, d, 0, spoilt)
			store(t, d, 1, spoilt)
			wantNotOpened(t, "both master records are spoilt", d, 8, api.ErrLost)
		}
	}
}

// P9.1: where the newest master record is spoilt, the older one tells where the log begins, and the Inc above which no sheet is in it.
func TestOpenWithNewestMasterSpoilt(t *testing.T) {
	p := fresh(t, 8)
	p.addSizes(t, 12, 12)
	p.force(t)
	p = p.reopen(t)
	p.addSizes(t, 12, 12)
	p.force(t)
	store(t, p.d, p.m.master.Gen%2, make([]byte, 256))
	again := open(t, p.d.Crash(api.Crash{}), 8)
	if again.l.Inc() != 2 || again.l.Last() != 2 || again.l.Used() != 1 {
		t.Errorf("Inc, Last and Used are %d, %d, %d; want 2, 2, 1: the other sheet has a greater Inc than the master record", again.l.Inc(), again.l.Last(), again.l.Used())
	}
}

// P9.1: a master record whose Gen or Inc can't be greater any more is an error of Save.
func TestOpenAtTheEndOfNumbers(t *testing.T) {
	for _, m := range []api.Master{{Gen: most, Lsn: 1}, {Gen: 1, Inc: most, Lsn: 1}, {Gen: most, Inc: most, First: most, Lsn: most, Check: most}} {
		d := made(t, 10)
		if e := master.Save(d, m); e != api.OK {
			t.Fatalf("Save is %d", e)
		}
		wantNotOpened(t, "no number left", d, 8, api.ErrArg)
		d.Fuse(0)
		wantNotOpened(t, "no number left, and the power about to fail", d, 8, api.ErrArg)
	}
	d := made(t, 10)
	if e := master.Save(d, api.Master{Gen: most - 1, Inc: most - 1, First: most, Lsn: most, Check: most}); e != api.OK {
		t.Fatalf("Save is %d", e)
	}
	p := open(t, d, 8)
	if p.l.Inc() != most || p.l.First() != most || p.l.Check() != most || p.l.Used() != 0 {
		t.Errorf("the last numbers that may be are %v", numbersOf(p.l))
	}
}

// P0.1: no call panics where the numbers of sheets, positions and records come to an end.
func TestAtTheEndOfNumbers(t *testing.T) {
	for _, m := range []api.Master{
		{Gen: most - 2, Inc: 1, First: 1, Lsn: 1}, {Gen: 1, Inc: most - 1, First: 1, Lsn: 1}, {Gen: 1, Inc: most - 2, First: 1, Lsn: 1},
		{Gen: 1, Inc: 1, First: most, Lsn: 1}, {Gen: 1, Inc: 1, First: most - 2, Lsn: 1}, {Gen: 1, Inc: 1, First: 1, Lsn: most}, {Gen: 1, Inc: 1, First: 1, Lsn: 0},
	} {
		d := made(t, 10)
		if e := master.Save(d, m); e != api.OK {
			t.Fatalf("Save is %d", e)
		}
		for range 3 {
			l, _ := wal.Open(d, 8)
			for range 5 {
				l.Append(recordOf(300, 1), 0)
				l.Force()
				l.Mark(l.Forced(), l.Forced())
				l.Get(l.Last())
				l.Get(m.Lsn)
				numbersOf(l)
			}
		}
	}
}

// P9.1: each opening saves the master record with Gen and Inc increased by 1, and changes nothing else.
func TestOpenCounts(t *testing.T) {
	for _, count := range goodCounts {
		d := formatted(t, count)
		for i := range 7 {
			before, syncs := sectorsOn(t, d), d.Syncs()
			l, e := wal.Open(d, count)
			if e != api.OK || d.Pending() != 0 || d.Syncs() != syncs+1 {
				t.Fatalf("Open is %d, leaves %d writes pending, and synchronizes %d times", e, d.Pending(), d.Syncs()-syncs)
			}
			wantOnly(t, "Open", before, sectorsOn(t, d), i%2)
			wantLog(t, "Open", l, &model{count: count, master: api.Master{Gen: i + 2, Inc: i + 1, Lsn: 1}})
			if m, e := master.Load(d); e != api.OK || m != (api.Master{Gen: i + 2, Inc: i + 1, Lsn: 1}) {
				t.Fatalf("the master record is %+v, %d", m, e)
			}
		}
	}
}
