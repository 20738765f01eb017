package wal_test

import (
	"math"
	"slices"
	"testing"

	"troth/api"
)

// P9.1: records have rising LSNs, whether they are forced or not, and are got as they were appended.
func TestAppendAndGet(t *testing.T) {
	p := fresh(t, 128)
	for i := range 300 {
		p.addSizes(t, 1+i%150)
		if p.l.Last() != i+1 || p.l.First() != 1 {
			t.Fatalf("behind %d records, First and Last are %d, %d", i+1, p.l.First(), p.l.Last())
		}
		if i%7 == 6 {
			wantLog(t, "Append", p.l, p.m)
		}
		if i%50 == 49 {
			p.force(t)
		}
	}
	p.wantReopened(t, "300 records")
}

// kinds is a record of each kind, with all its fields, which share no memory.
func kinds() []api.Rec {
	has, none := api.Value{Has: true, Data: "data"}, api.Value{}
	locks := func() []api.Lock { return []api.Lock{{Key: "a", X: true}, {Key: "b"}} }
	return []api.Rec{
		{Kind: api.RecUpdate, Tx: 1, Prev: 0, Key: "k", Old: none, New: has},
		{Kind: api.RecClr, Tx: 1, Prev: 2, Next: 1, Key: "k", New: has},
		{Kind: api.RecPrepare, Tx: 1, Prev: 2, Coord: 7, Members: []int{0, 3, 7}, Locks: locks()},
		{Kind: api.RecCommit, Tx: 1, Prev: 2}, {Kind: api.RecAbort, Tx: 1, Prev: 2}, {Kind: api.RecEnd, Tx: most, Prev: most}, {Kind: api.RecBegin},
		{
			Kind: api.RecCheck,
			Rows: []api.Row{
				{Tx: 3, State: api.Active, First: 1, Last: 2, Undo: 1, Coord: 1, Members: []int{1, 2}, Locks: locks()},
				{Tx: 4, State: api.Prepared, Members: []int{5}, Locks: locks()},
			},
			Dirty: []api.Dirty{{Page: 0, Rec: 3}, {Page: 63, Rec: 1}},
			Deeds: []api.Deed{{Tx: 5, Members: []int{0, 1}}, {Tx: 6, Members: []int{2}}},
			Past:  []int{7, 8, 9},
		},
		{Kind: api.RecDecide, Tx: 9, Members: []int{1, 2, 3}}, {Kind: api.RecForget, Tx: 9},
	}
}

// P9.1: records of all kinds, and of all sizes, are there before and behind Force, and when the log is opened again.
func TestAllKinds(t *testing.T) {
	p := fresh(t, 64)
	p.add(t, kinds()...)
	wantLog(t, "all kinds", p.l, p.m)
	p.force(t)
	p.add(t, kinds()...)
	p.force(t)
	p = p.wantReopened(t, "all kinds")
	for i, r := range slices.Concat(kinds(), kinds()) {
		wantGet(t, "all kinds", p.l, 1+i, bodyOf(t, r))
	}
}

// P9.1: records of each size up to the greatest, among others.
func TestAllSizes(t *testing.T) {
	p := fresh(t, 1024)
	for n := 1; n <= longer; n += 1 + n/40 {
		p.addSizes(t, n)
		if n%3 == 0 {
			if e := p.l.Force(); e != api.OK {
				t.Fatalf("Force is %d", e)
			}
			p.m.force()
		}
	}
	p.addSizes(t, 4095, 4096)
	wantLog(t, "all sizes", p.l, p.m)
	p.force(t)
	p.wantReopened(t, "all sizes")
}

// P9.1: which LSNs Get has: of records that were forced, and of others, none below First and none above Last.
func TestGet(t *testing.T) {
	p := fresh(t, 8)
	for _, lsn := range []int{0, 1, 2, -1, math.MinInt, math.MaxInt} {
		wantNotGot(t, "an empty log", p.l, lsn, api.ErrLsn)
	}
	p.addSizes(t, 236, 237, 20, 30)
	p.force(t)
	p.addSizes(t, 40, 50)
	for round := range 3 {
		for lsn := -3; lsn < 12; lsn++ {
			if first, last := p.l.First(), p.l.Last(); lsn < first || lsn > last {
				wantNotGot(t, "a log", p.l, lsn, api.ErrLsn)
			} else {
				wantGet(t, "a log", p.l, lsn, p.m.bodies[lsn-first])
			}
		}
		switch round {
		case 0:
			p.mark(t, 0, 2)
			if p.l.First() != 2 || p.l.Last() != 6 || p.l.Forced() != 4 {
				t.Fatalf("First, Last and Forced are %v", numbersOf(p.l))
			}
		case 1:
			p = p.reopen(t)
			if p.l.First() != 2 || p.l.Last() != 4 || p.l.Forced() != 4 {
				t.Fatalf("First, Last and Forced are %v", numbersOf(p.l))
			}
		}
	}
	for _, lsn := range []int{p.l.First() - most, p.l.First() + math.MinInt, p.l.First() - 1 + math.MaxInt} {
		wantNotGot(t, "far away", p.l, lsn, api.ErrLsn)
	}
}

// refused are records that Encode refuses.
func refused() map[api.Errno][]api.Rec {
	return map[api.Errno][]api.Rec{
		api.ErrArg: {
			{}, {Kind: 11}, {Kind: -1}, {Kind: api.RecBegin, Tx: 1}, {Kind: api.RecEnd}, {Kind: api.RecEnd, Tx: most + 1}, {Kind: api.RecEnd, Tx: 1, Prev: -1},
			{Kind: api.RecUpdate, Tx: 1}, {Kind: api.RecForget, Tx: 1, Members: []int{1}}, {Kind: api.RecDecide, Tx: 1, Members: []int{2, 1}}, {Kind: api.RecDecide, Tx: 1, Members: []int{8}},
		},
		api.ErrLong: {recordOf(4097, 1), recordOf(4098, 1), recordOf(5000, 1)},
	}
}

// P9.1: the records that Encode refuses are refused with its errors, ahead of a want of room, and change nothing.
func TestAppendErrors(t *testing.T) {
	empty, some, fullOne := fresh(t, 8), fresh(t, 8), fresh(t, 8)
	some.addSizes(t, 100)
	some.force(t)
	some.addSizes(t, 200)
	for range 8 {
		fullOne.addSizes(t, 236)
	}
	for _, p := range []*pair{empty, some, fullOne} {
		for want, l := range refused() {
			for _, r := range l {
				for _, spare := range []int{0, -1, 8, 9, math.MaxInt, math.MinInt} {
					if e := p.append(t, r, spare); e != want {
						t.Errorf("Append of %+v is %d; want %d", r, e, want)
					}
				}
			}
		}
		wantLog(t, "records that are refused", p.l, p.m)
	}
	if e := fullOne.append(t, recordOf(1, 0), 0); e != api.ErrLog {
		t.Errorf("Append to a full log is %d; want ErrLog", e)
	}
	some.force(t)
	some.wantReopened(t, "records that are refused")
}

// P9.1: the sheets that records need which were not forced are used, from the first byte of each on.
func TestUsed(t *testing.T) {
	for _, ahead := range []int{0, 1, 3} {
		for n := 1; n < 1000; n++ {
			p := fresh(t, 16)
			for range ahead {
				p.addSizes(t, 10)
				if e := p.l.Force(); e != api.OK {
					t.Fatalf("Force is %d", e)
				}
				p.m.force()
			}
			p.addSizes(t, n)
			sealed := n + 5
			if n > 127 {
				sealed++
			}
			if want := ahead + (sealed+241)/242; p.l.Used() != want || p.l.Room() != 16-want {
				t.Fatalf("behind %d sheets, with a record of %d bytes, Used and Room are %d, %d; want %d, %d", ahead, n, p.l.Used(), p.l.Room(), want, 16-want)
			}
		}
	}
	p := fresh(t, 16)
	for i := range 400 {
		p.addSizes(t, 2)
		if want := 1 + ((i+1)*7-1)/242; p.l.Used() != want {
			t.Fatalf("with %d records of 2 bytes, Used is %d; want %d", i+1, p.l.Used(), want)
		}
	}
}

// filled is a log with so many full sheets of records, which were forced or not.
func filled(t *testing.T, count, sheets int, forced bool) *pair {
	t.Helper()
	p := fresh(t, count)
	p.addSizes(t, slices.Repeat([]int{236}, sheets)...)
	if forced {
		p.force(t)
	}
	return p
}

// P9.1: a record may use the last sheets but those that are spared, and not a byte more.
func TestSpare(t *testing.T) {
	for _, count := range []int{8, 9, 64} {
		for sheets := range 7 {
			for _, forced := range []bool{false, true} {
				room := count - sheets
				p := filled(t, count, sheets, forced)
				for _, spare := range []int{room, room + 1, count, count + 1, 1 << 32, 1<<32 - 1, math.MaxInt, math.MaxInt - 1} {
					if e := p.append(t, recordOf(1, 0), spare); e != api.ErrLog {
						t.Fatalf("with %d sheets of room, Append with %d spare is %d; want ErrLog", room, spare, e)
					}
				}
				// 236 bytes fill a sheet with those of the seal, and 237 need a byte of another one.
				for n, needed := range map[int]int{1: 1, 236: 1, 237: 2, 478: 2, 479: 3} {
					for _, spare := range []int{room - needed + 1, room - needed, 1, 0, -1, math.MinInt} {
						p := filled(t, count, sheets, forced)
						want := api.OK
						if needed > room-max(spare, 0) {
							want = api.ErrLog
						}
						if e := p.append(t, recordOf(n, 1), spare); e != want {
							t.Fatalf("with %d sheets of room, Append of %d bytes with %d spare is %d; want %d", room, n, spare, e, want)
						}
					}
				}
			}
		}
	}
}

// P9.1: a log is filled to its last byte, which only a smaller record than the one that is refused can do.
func TestLastSheet(t *testing.T) {
	for _, count := range []int{8, 9} {
		p := fresh(t, count)
		p.addSizes(t, slices.Repeat([]int{236}, count-1)...)
		p.addSizes(t, 200)
		for n := 50; n > 31; n-- {
			if e := p.append(t, recordOf(n, 0), 0); e != api.ErrLog {
				t.Fatalf("Append of %d bytes, where 36 are left with those of the seal, is %d", n, e)
			}
		}
		// 200 + 6 bytes are there: 36 are left, which 31 + 5 fill.
		p.addSizes(t, 31)
		if e := p.append(t, recordOf(1, 0), 0); e != api.ErrLog || p.l.Room() != 0 {
			t.Fatalf("Append to a full log is %d, and Room %d", e, p.l.Room())
		}
		p.force(t)
		if e := p.append(t, recordOf(1, 0), 0); e != api.ErrLog || p.l.Room() != 0 {
			t.Fatalf("Append to a full log that was forced is %d, and Room %d", e, p.l.Room())
		}
		p = p.wantReopened(t, "a full log")
		if e := p.append(t, recordOf(1, 0), -5); e != api.ErrLog || p.l.Last() != count+1 {
			t.Fatalf("Append to a full log that was opened is %d, and Last %d", e, p.l.Last())
		}
		p.mark(t, 0, 2)
		p.addSizes(t, 236)
		p.force(t)
		p.wantReopened(t, "a full log that goes on")
	}
}

// P9.1: a sheet that was written is full, whatever room it has: what is appended then needs another one.
func TestForceEndsASheet(t *testing.T) {
	p := fresh(t, 8)
	for i := range 8 {
		p.addSizes(t, 1)
		if p.l.Used() != i+1 {
			t.Fatalf("Used is %d; want %d", p.l.Used(), i+1)
		}
		p.force(t)
	}
	if e := p.append(t, recordOf(1, 0), 0); e != api.ErrLog {
		t.Fatalf("Append to a full log is %d; want ErrLog", e)
	}
	p.wantReopened(t, "sheets of a record each")
}

// P9.1: the greatest record, where there is just the room for it, and where there is not.
func TestGreatestRecord(t *testing.T) {
	// 4096 + 6 bytes need 17 sheets.
	for _, count := range []int{16, 17, 18} {
		p := fresh(t, count)
		want := api.OK
		if count < 17 {
			want = api.ErrLog
		}
		if e := p.append(t, recordOf(4096, 1), 0); e != want {
			t.Fatalf("Append of 4096 bytes to %d sheets is %d; want %d", count, e, want)
		}
		p.force(t)
		p.wantReopened(t, "the greatest record")
	}
}
