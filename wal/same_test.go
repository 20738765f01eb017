package wal_test

import (
	"math"
	"slices"
	"testing"

	"troth/api"
	"troth/disk"
	"troth/master"
	"troth/wal"
)

// outcome is what a call answers, and what it is seen to leave.
type outcome struct {
	lsn            int
	e              api.Errno
	body           string
	numbers        [8]int
	pending, syncs int
	down, opened   bool
}

// number is one that may be or that may not, around those of the log.
func (r *draw) number(l *wal.Log) int {
	return pick(r, []int{0, 1, -1, l.First(), l.First() - 1, l.Last(), l.Last() + 1, l.Forced(), l.Forced() + 1, l.Room(), l.Room() + 1, math.MaxInt, math.MinInt, r.below(30)})
}

// act is a call of any kind with any arguments, and its outcome.
func (r *draw) act(t *testing.T, d *disk.Disk, l *wal.Log) (*disk.Disk, *wal.Log, outcome) {
	t.Helper()
	var o outcome
	switch r.below(10) {
	case 0, 1, 2:
		o.lsn, o.e = l.Append(recordOf(pick(r, []int{1, 3, 20, 100, 236, 300, 2000, 4096, 4097}), r.below(90)), r.number(l))
	case 3, 4:
		o.e = l.Force()
	case 5, 6:
		o.e = l.Mark(r.number(l), r.number(l))
	case 7:
		var got api.Rec
		got, o.e = l.Get(r.number(l))
		if o.e == api.OK {
			o.body = bodyOf(t, got)
		} else if !isZero(got) {
			t.Fatalf("Get fails with %d, and is %+v", o.e, got)
		}
	case 8:
		if r.below(8) == 0 {
			d.Fuse(r.below(30))
		}
	default:
		d = d.Crash(api.Crash{Keep: []int{0, 2, 3}, Torn: true, Cut: r.below(258)})
		l, o.e = wal.Open(d, pick(r, []int{16, 16, 16, 16, 8, 17, 7}))
		if (l == nil) == (o.e == api.OK) {
			t.Fatalf("Open is %v, %d", l, o.e)
		}
	}
	o.numbers, o.pending, o.syncs, o.down, o.opened = numbersOf(l), d.Pending(), d.Syncs(), d.Down(), l != nil
	return d, l, o
}

// P0.1 and P0.5: whatever is passed, nothing panics, and the same calls have the same results.
func TestSameCallsSameResults(t *testing.T) {
	t.Parallel()
	one, two := formatted(t, 16), formatted(t, 16)
	l, _ := wal.Open(one, 16)
	m, _ := wal.Open(two, 16)
	var r, s draw
	for i := range 20000 {
		var a, b outcome
		one, l, a = r.act(t, one, l)
		two, m, b = s.act(t, two, m)
		if a != b {
			t.Fatalf("call %d has the outcomes %+v and %+v", i, a, b)
		}
		if a.e != api.OK && a.lsn != 0 {
			t.Fatalf("call %d fails with %d, and %d beside it", i, a.e, a.lsn)
		}
	}
}

// drawSheet is a sheet that may be one of a log with a master record, or almost.
func (r *draw) drawSheet(t *testing.T, m api.Master, pos int) []byte {
	t.Helper()
	inc := min(m.Inc, 1+r.below(3))
	s := lay(t, inc, pos, bodyOf(t, recordOf(pick(r, []int{10, 100, 236}), r.below(90))))[0]
	switch r.below(12) {
	case 0:
		s.First = r.below(256)
	case 1:
		s.Pos += pick(r, []int{-8, 8, 1})
	case 2:
		s.Inc = r.below(8)
	case 3:
		s.Data = s.Data[:r.below(len(s.Data)+1)]
	case 4:
		s = lay(t, inc, pos, "no record")[0]
	case 5:
		s = lay(t, inc, pos, bodyOf(t, recordOf(700, 1)))[r.below(3)]
		s.Pos = pos
	}
	sector := stamped(byte(1+r.below(3)), payloadOf(s))
	if r.below(10) == 0 {
		sector[r.below(256)] = byte(r.below(256))
	}
	return sector
}

// P9.1 and P0.1: whatever the ring has, Open finds what the chapter says, and nothing panics then.
func TestAnyRing(t *testing.T) {
	t.Parallel()
	var r draw
	for range 3000 {
		m := api.Master{Gen: 1 + r.below(9), Inc: 1 + r.below(5), First: 8 + r.below(20), Lsn: 1 + r.below(50), Check: r.below(3)}
		d := made(t, 2+8)
		if e := master.Save(d, m); e != api.OK {
			t.Fatalf("Save is %d", e)
		}
		for i := range r.below(9) {
			store(t, d, 2+(m.First+i)%8, r.drawSheet(t, m, m.First+i))
		}
		l := open(t, d, 8).l
		for range 5 {
			lsn, e := l.Append(recordOf(20, 1), 0)
			if e == api.OK {
				l.Force()
				l.Mark(0, pick(&r, []int{lsn, l.First(), r.number(l)}))
			}
			l.Get(r.number(l))
			numbersOf(l)
		}
		open(t, d.Crash(api.Crash{}), 8)
	}
}

// P0.1: sectors of any bytes, the master record's too.
func TestAnyBytes(t *testing.T) {
	var r draw
	for range 2000 {
		d := made(t, 2+8)
		for n := range d.Sectors() {
			sector := make([]byte, 256)
			for i := range sector {
				sector[i] = byte(r.below(256))
			}
			if r.below(3) > 0 {
				sector[0], sector[255] = 1, 1
			}
			if n < 2 && r.below(4) > 0 {
				sector = stamped(1, slices.Concat([]byte{byte(n) + 2, byte(r.below(4)), byte(r.below(20))}, sector[:200]))
			}
			store(t, d, n, sector)
		}
		l, e := wal.Open(d, 8)
		if e != api.OK && e != api.ErrLost || (l == nil) != (e == api.ErrLost) {
			t.Fatalf("Open is %v, %d", l, e)
		}
		for range 3 {
			l.Append(recordOf(20, 1), 0)
			l.Force()
			l.Mark(r.number(l), r.number(l))
			l.Get(r.number(l))
			numbersOf(l)
		}
	}
}
