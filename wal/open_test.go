package wal_test

import (
	"slices"
	"strings"
	"testing"

	"troth/api"
	"troth/disk"
	"troth/master"
	"troth/sheet"
	"troth/wal"
)

// lay is the sheets of bodies.
func lay(t *testing.T, inc, pos int, bodies ...string) []api.Sheet {
	t.Helper()
	var l [][]byte
	for _, body := range bodies {
		l = append(l, []byte(body))
	}
	sheets, e := sheet.Lay(inc, pos, l)
	if e != api.OK {
		t.Fatalf("Lay is %d", e)
	}
	return sheets
}

// put puts a sheet, valid or not, into the sector of a position.
func put(t *testing.T, d *disk.Disk, count, pos int, s api.Sheet) {
	t.Helper()
	store(t, d, 2+pos%count, stamped(1, payloadOf(s)))
}

// holding is a disk with a master record, and with sheets from its First on.
func holding(t *testing.T, count int, m api.Master, sheets ...api.Sheet) *disk.Disk {
	t.Helper()
	d := made(t, 2+count)
	if e := master.Save(d, m); e != api.OK {
		t.Fatalf("Save is %d", e)
	}
	for i, s := range sheets {
		put(t, d, count, m.First+i, s)
	}
	return d
}

// bodiesOf is the bodies of records of so many bytes each.
func bodiesOf(t *testing.T, sizes ...int) []string {
	t.Helper()
	var l []string
	for i, n := range sizes {
		l = append(l, bodyOf(t, recordOf(n, i)))
	}
	return l
}

// wantOpened opens the log on a disk, and fails if it has other bodies than these, or uses another number of sheets. It then goes on with it.
func wantOpened(t *testing.T, what string, d *disk.Disk, count, sheets int, bodies ...string) {
	t.Helper()
	m, e := master.Load(d)
	if e != api.OK {
		t.Fatalf("%s: Load is %d", what, e)
	}
	p := open(t, d, count)
	if p.l.First() != m.Lsn || p.l.Last() != m.Lsn+len(bodies)-1 || p.l.Forced() != p.l.Last() || p.l.Used() != sheets {
		t.Fatalf("%s: First, Last, Forced and Used are %d, %d, %d, %d; want %d records from %d on, and %d sheets", what, p.l.First(), p.l.Last(), p.l.Forced(), p.l.Used(), len(bodies), m.Lsn, sheets)
	}
	for i, body := range bodies {
		wantGet(t, what, p.l, m.Lsn+i, body)
	}
	// What follows is written behind these sheets, and found there.
	if sheets < count {
		p.addSizes(t, 20)
		p.force(t)
		if p.l.Used() != sheets+1 {
			t.Fatalf("%s: behind Append and Force, Used is %d; want %d", what, p.l.Used(), sheets+1)
		}
	}
}

// wantOpenedAgain is wantOpened, and fails if what follows is not found when the log is opened again.
func wantOpenedAgain(t *testing.T, what string, d *disk.Disk, count, sheets int, bodies ...string) {
	t.Helper()
	wantOpened(t, what, d, count, sheets, bodies...)
	if sheets == count {
		return
	}
	p := open(t, d.Crash(api.Crash{}), count)
	if p.l.Last() != p.l.First()+len(bodies) || p.l.Used() != sheets+1 {
		t.Fatalf("%s: opened again, First, Last and Used are %d, %d, %d; want %d records and %d sheets", what, p.l.First(), p.l.Last(), p.l.Used(), len(bodies)+1, sheets+1)
	}
	for i, body := range bodies {
		wantGet(t, what+", opened again", p.l, p.l.First()+i, body)
	}
	wantGet(t, what+", opened again", p.l, p.l.Last(), bodyOf(t, recordOf(20, p.l.Last()-1)))
}

// starts are places in the ring and in the numbers at which a log may begin.
func starts() []api.Master {
	return []api.Master{
		{Gen: 1, Inc: 5, Lsn: 1}, {Gen: 2, Inc: 5, First: 1, Lsn: 2, Check: 2}, {Gen: 7, Inc: 5, First: 7, Lsn: 1000, Check: 1001},
		{Gen: 8, Inc: 5, First: 8, Lsn: 9}, {Gen: 300, Inc: 5, First: 1000003, Lsn: 77}, {Gen: 1 << 30, Inc: 5, First: most - 30, Lsn: most - 100, Check: 1},
	}
}

// sixSheets is six sheets of Inc 2 to 5, with a body that ends with each of them, and these bodies.
func sixSheets(t *testing.T, first int) ([]api.Sheet, []string) {
	t.Helper()
	bodies := bodiesOf(t, 236, 236, 200, 236, 10, 236)
	var sheets []api.Sheet
	for i, inc := range []int{2, 2, 3, 3, 5, 5} {
		sheets = append(sheets, lay(t, inc, first+i, bodies[i])...)
	}
	return sheets, bodies
}

// P9.1: sheets that are as they should be are all of the log, wherever it begins.
func TestOpenSheets(t *testing.T) {
	for _, count := range []int{8, 9, 64, 1024} {
		for _, m := range starts() {
			sheets, bodies := sixSheets(t, m.First)
			for n := range len(sheets) + 1 {
				wantOpenedAgain(t, "sheets", holding(t, count, m, sheets[:n]...), count, n, bodies[:n]...)
			}
		}
	}
}

// P9.1: a log is as long as its ring at most, and then has no room.
func TestOpenFullRing(t *testing.T) {
	t.Parallel()
	for _, count := range []int{8, 9, 1023, 1024} {
		for _, m := range starts() {
			m.First = min(m.First, most-2*count)
			for _, n := range []int{count - 1, count} {
				bodies := bodiesOf(t, slices.Repeat([]int{236}, n)...)
				wantOpenedAgain(t, "a full ring", holding(t, count, m, lay(t, 5, m.First, bodies...)...), count, n, bodies...)
			}
			l, e := wal.Open(holding(t, count, m, lay(t, 5, m.First, bodiesOf(t, slices.Repeat([]int{236}, count)...)...)...), count)
			if e != api.OK || l.Room() != 0 || l.Used() != count {
				t.Fatalf("of a full ring, Open is %d, and Room and Used %d, %d", e, l.Room(), l.Used())
			}
			if lsn, e := l.Append(recordOf(1, 0), 0); lsn != 0 || e != api.ErrLog {
				t.Fatalf("Append to a full ring is %d, %d; want 0, ErrLog", lsn, e)
			}
		}
	}
}

// P9.1: a sector that is not intact ends the log.
func TestTornEndsTheLog(t *testing.T) {
	for _, m := range starts() {
		sheets, bodies := sixSheets(t, m.First)
		for n := range sheets {
			for _, ends := range [][2]byte{{0, 0}, {1, 2}, {2, 1}, {3, 0}, {0, 3}, {4, 4}, {255, 255}, {1, 3}} {
				d := holding(t, 8, m, sheets...)
				sector := stamped(1, payloadOf(sheets[n]))
				sector[0], sector[255] = ends[0], ends[1]
				store(t, d, 2+(m.First+n)%8, sector)
				wantOpenedAgain(t, "not intact", d, 8, n, bodies[:n]...)
			}
		}
	}
}

// P9.1: what ends the log in a sector that is intact: no sheet, another Pos, a lesser Inc than ahead of it, a greater one than the master record's.
func TestWhatEndsTheLog(t *testing.T) {
	for _, m := range starts() {
		sheets, bodies := sixSheets(t, m.First)
		for n, s := range sheets {
			wrong := []api.Sheet{
				{Inc: s.Inc, Pos: s.Pos, First: len(s.Data) + 1, Data: s.Data}, {Inc: s.Inc, Pos: s.Pos, First: 254, Data: s.Data},
				{Inc: s.Inc, Pos: s.Pos, First: 0, Data: strings.Repeat("x", 241) + "xx"},
				{Inc: s.Inc, Pos: s.Pos + 8, First: 0, Data: s.Data}, {Inc: s.Inc, Pos: s.Pos + 1, First: 0, Data: s.Data}, {Inc: s.Inc, Pos: s.Pos ^ 1<<39, First: 0, Data: s.Data},
				{Inc: 6, Pos: s.Pos, First: 0, Data: s.Data}, {Inc: most - 1, Pos: s.Pos, First: 0, Data: s.Data},
			}
			if s.Pos >= 8 {
				wrong = append(wrong, api.Sheet{Inc: s.Inc, Pos: s.Pos - 8, First: 0, Data: s.Data})
			}
			if n > 0 {
				wrong = append(wrong, api.Sheet{Inc: sheets[n-1].Inc - 1, Pos: s.Pos, First: 0, Data: s.Data}, api.Sheet{Pos: s.Pos, First: 0, Data: s.Data})
			}
			for _, w := range wrong {
				d := holding(t, 8, m, sheets...)
				put(t, d, 8, m.First+n, w)
				wantOpenedAgain(t, "a sheet that ends the log", d, 8, n, bodies[:n]...)
			}
		}
	}
}

// P9.1: zero bytes in a sector are not intact; between stamps, they are an empty sheet with the position 0, which is one of the log there.
func TestEmptySheet(t *testing.T) {
	for _, m := range starts() {
		d := holding(t, 8, m)
		store(t, d, 2+m.First%8, stamped(2, nil))
		want := 0
		if m.First == 0 {
			want = 1
		}
		wantOpenedAgain(t, "zero bytes", d, 8, want)
		bodies := bodiesOf(t, 20, 30)
		sheets := slices.Concat(lay(t, 1, m.First, bodies[0]), []api.Sheet{{Inc: 2, Pos: m.First + 1, First: 0}, {Inc: 2, Pos: m.First + 2, First: 255}}, lay(t, 3, m.First+3, bodies[1]))
		wantOpenedAgain(t, "empty sheets", holding(t, 8, m, sheets...), 8, 4, bodies...)
	}
}

// P9.1: an Inc may stay, grow, be 0, and be the master record's.
func TestIncsThatMayBe(t *testing.T) {
	bodies := bodiesOf(t, 236, 236, 236, 236)
	for _, incs := range [][4]int{{0, 0, 0, 0}, {5, 5, 5, 5}, {0, 1, 4, 5}, {0, 0, 5, 5}, {4, 4, 4, 5}} {
		var sheets []api.Sheet
		for i, inc := range incs {
			sheets = append(sheets, lay(t, inc, 8+i, bodies[i])...)
		}
		wantOpenedAgain(t, "Incs", holding(t, 8, api.Master{Gen: 9, Inc: 5, First: 8, Lsn: 3}, sheets...), 8, 4, bodies...)
	}
	for i, incs := range [][4]int{{7, 7, 7, 7}, {0, 7, 5, 5}, {1, 1, 0, 1}, {2, 5, 5, 4}} {
		var sheets []api.Sheet
		for k, inc := range incs {
			sheets = append(sheets, lay(t, inc, 8+k, bodies[k])...)
		}
		wantOpenedAgain(t, "Incs that end the log", holding(t, 8, api.Master{Gen: 9, Inc: 5, First: 8, Lsn: 3}, sheets...), 8, i, bodies[:i]...)
	}
}

// P9.1: a body that is not the encoding of a record ends the log; the sheets are used.
func TestBodiesThatAreNoRecords(t *testing.T) {
	good := bodiesOf(t, 20, 300, 30, 40)
	bad := []string{"", "x", "\x00", "\x0b", good[0] + "x", good[0][:19], good[1][:100], "\x06\x05\x80", strings.Repeat("x", 4096), strings.Repeat("\x07", 2), "\x06\x00\x00"}
	for _, m := range starts() {
		for _, body := range bad {
			for n := range len(good) + 1 {
				sheets := lay(t, 4, m.First, slices.Insert(slices.Clone(good), n, body)...)
				if len(sheets) > 24 {
					t.Fatalf("%d sheets", len(sheets))
				}
				// The last body makes all sheets be there, whatever becomes of the others.
				wantOpened(t, "a body that is no record", holding(t, 64, m, sheets...), 64, len(sheets), good[:n]...)
			}
		}
	}
}

// P9.1: a body whose checksum is wrong, and what follows it, is not found.
func TestBodiesThatAreSpoilt(t *testing.T) {
	for _, m := range starts() {
		bodies := bodiesOf(t, 236, 236, 236, 236)
		for n := range bodies {
			sheets := lay(t, 4, m.First, bodies...)
			b := []byte(sheets[n].Data)
			b[100] ^= 1
			sheets[n].Data = string(b)
			wantOpened(t, "a body that is spoilt", holding(t, 8, m, sheets...), 8, 4, bodies[:n]...)
		}
	}
}

// P9.1: a body that is incomplete at the end is none of the log's, but its sheets are used; what follows is found.
func TestIncompleteBody(t *testing.T) {
	for _, m := range starts() {
		bodies := bodiesOf(t, 20, 230, 1000, 10)
		sheets := lay(t, 4, m.First, bodies...)
		for n, ended := range []int{0, 1, 2, 2, 2, 2, 4} {
			wantOpenedAgain(t, "an incomplete body", holding(t, 8, m, sheets[:n]...), 8, n, bodies[:ended]...)
		}
		// Others were written behind an incomplete one, of which one is incomplete too.
		others := bodiesOf(t, 30, 31, 700)
		sheets = slices.Concat(sheets[:3], lay(t, 5, m.First+3, others...)[:2])
		wantOpenedAgain(t, "two incomplete bodies", holding(t, 8, m, sheets...), 8, 5, slices.Concat(bodies[:2], others[:2])...)
	}
}

// P9.1: a log whose first sheet begins in the middle of a body begins with the first one that begins there.
func TestBegunInTheMiddle(t *testing.T) {
	for _, m := range starts() {
		bodies := bodiesOf(t, 500, 20, 30, 300, 40)
		sheets := lay(t, 4, m.First, bodies...)
		for n, begun := range []int{0, 1, 1, 4} {
			from := m
			from.First += n
			wantOpenedAgain(t, "begun in the middle", holding(t, 8, from, sheets[n:]...), 8, len(sheets)-n, bodies[begun:]...)
		}
	}
}
