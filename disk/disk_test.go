package disk_test

import (
	"bytes"
	"math"
	"testing"

	"troth/api"
	"troth/disk"
)

// full is a sector's bytes, all the same.
func full(c byte) []byte { return bytes.Repeat([]byte{c}, api.SectorBytes) }

// mixed is a sector's bytes that differ from each other, and from those of another seed.
func mixed(seed int) []byte {
	b := make([]byte, api.SectorBytes)
	state := uint32(seed)*2654435761 + 1
	for i := range b {
		state = state*1664525 + 1013904223
		b[i] = byte(state >> 24)
	}
	return b
}

// made is a disk of a number of sectors that there may be.
func made(t *testing.T, sectors int) *disk.Disk {
	t.Helper()
	d, e := disk.New(sectors)
	if e != api.OK || d == nil {
		t.Fatalf("New(%d) is %v, %d", sectors, d, e)
	}
	return d
}

// fallen is a disk without power, on which 1 was synchronized in sector 0, and 2 and 3 are pending in sectors 0 and 1.
func fallen(t *testing.T) *disk.Disk {
	t.Helper()
	d := made(t, 3)
	write(t, d, 0, full(1))
	sync(t, d)
	write(t, d, 0, full(2))
	write(t, d, 1, full(3))
	d.Fuse(0)
	if e := d.Write(2, full(4)); e != api.ErrDown {
		t.Fatalf("Write with a fuse of 0 is %d; want ErrDown", e)
	}
	return d
}

// write writes a sector, which should succeed.
func write(t *testing.T, d *disk.Disk, n int, data []byte) {
	t.Helper()
	if e := d.Write(n, data); e != api.OK {
		t.Fatalf("Write(%d) of %d bytes is %d; want OK", n, len(data), e)
	}
}

// sync synchronizes a disk, which should succeed.
func sync(t *testing.T, d *disk.Disk) {
	t.Helper()
	if e := d.Sync(); e != api.OK {
		t.Fatalf("Sync is %d; want OK", e)
	}
}

// read is a sector's content.
func read(t *testing.T, d *disk.Disk, n int) []byte {
	t.Helper()
	b, e := d.Read(n)
	if e != api.OK || len(b) != api.SectorBytes {
		t.Fatalf("Read(%d) is %d bytes, %d; want 256, OK", n, len(b), e)
	}
	return b
}

// readAll is the content of all sectors.
func readAll(t *testing.T, d *disk.Disk) [][]byte {
	t.Helper()
	var l [][]byte
	for n := range d.Sectors() {
		l = append(l, read(t, d, n))
	}
	return l
}

// wantContent fails if a sector has another content.
func wantContent(t *testing.T, what string, d *disk.Disk, n int, want []byte) {
	t.Helper()
	if b := read(t, d, n); !bytes.Equal(b, want) {
		t.Errorf("%s: sector %d has %v; want %v", what, n, b, want)
	}
}

// wantCounts fails if a disk has other numbers, or other power.
func wantCounts(t *testing.T, what string, d *disk.Disk, pending, syncs int, down bool) {
	t.Helper()
	if d.Pending() != pending || d.Syncs() != syncs || d.Down() != down {
		t.Errorf("%s: Pending is %d, Syncs %d, Down %t; want %d, %d, %t", what, d.Pending(), d.Syncs(), d.Down(), pending, syncs, down)
	}
}

// P4.1: New, with the least and the greatest number of sectors.
func TestNew(t *testing.T) {
	for _, sectors := range []int{1, 2, 10, 4095, 4096} {
		d := made(t, sectors)
		if n := d.Sectors(); n != sectors {
			t.Errorf("Sectors of New(%d) is %d", sectors, n)
		}
		wantCounts(t, "a new disk", d, 0, 0, false)
		for n := range sectors {
			wantContent(t, "a new disk", d, n, make([]byte, api.SectorBytes))
		}
	}
}

// P4.1: New of numbers that there are not.
func TestNewErrors(t *testing.T) {
	for _, sectors := range []int{0, 4097, 4098, -1, -4096, math.MaxInt, math.MinInt} {
		if d, e := disk.New(sectors); e != api.ErrArg || d != nil {
			t.Errorf("New(%d) is %v, %d; want nil, ErrArg", sectors, d, e)
		}
	}
}

// P4.1: what was written is read, at both ends, synchronized or not, and no other sector changes.
func TestWriteAndRead(t *testing.T) {
	for _, sectors := range []int{1, 2, 7, 4096} {
		for _, n := range []int{0, sectors / 2, sectors - 1} {
			d := made(t, sectors)
			want := readAll(t, d)
			for i := range 3 {
				want[n] = mixed(i)
				write(t, d, n, want[n])
				wantContent(t, "a written sector", d, n, want[n])
			}
			sync(t, d)
			for i, b := range readAll(t, d) {
				if !bytes.Equal(b, want[i]) {
					t.Fatalf("behind writes to sector %d of %d, sector %d has %v; want %v", n, sectors, i, b, want[i])
				}
			}
		}
	}
}

// P4.1: the content is what the last write wrote, however many there are to other sectors behind it, synchronized and not.
func TestLastWriteCounts(t *testing.T) {
	d := made(t, 5)
	want := readAll(t, d)
	for i := range 200 {
		n := i * i % 5
		want[n] = mixed(i)
		write(t, d, n, want[n])
		if i%17 == 16 {
			sync(t, d)
		}
		for n, b := range readAll(t, d) {
			if !bytes.Equal(b, want[n]) {
				t.Fatalf("behind write %d, sector %d has %v; want %v", i, n, b, want[n])
			}
		}
	}
}

// P4.1: the errors of Write, and their order: of the number, of the length, of the power. None of them changes anything.
func TestWriteErrors(t *testing.T) {
	good, bad := [][]byte{full(9)}, [][]byte{nil, {}, {1}, full(9)[:255], append(full(9), 9), make([]byte, 512), make([]byte, 1<<16)}
	there, beyond := []int{0, 1, 2}, []int{-1, 3, 4, 4096, math.MaxInt, math.MinInt}
	for _, c := range []struct {
		numbers  []int
		data     [][]byte
		up, down api.Errno
	}{
		{there, bad, api.ErrLong, api.ErrLong},
		{beyond, good, api.ErrArg, api.ErrArg},
		{beyond, bad, api.ErrArg, api.ErrArg},
		{there, good, api.OK, api.ErrDown},
	} {
		for _, n := range c.numbers {
			for _, data := range c.data {
				d := fallen(t)
				if e := d.Write(n, data); e != c.down {
					t.Errorf("Write(%d) of %d bytes without power is %d; want %d", n, len(data), e, c.down)
				}
				wantCounts(t, "a refused write without power", d, 2, 1, true)
				d = made(t, 3)
				if e := d.Write(n, data); e != c.up {
					t.Errorf("Write(%d) of %d bytes is %d; want %d", n, len(data), e, c.up)
				}
				if c.up != api.OK {
					wantCounts(t, "a refused write", d, 0, 0, false)
				}
			}
		}
	}
}

// P4.1: the errors of Read, and their order: of the number, of the power.
func TestReadErrors(t *testing.T) {
	up, down := made(t, 3), fallen(t)
	for _, n := range []int{-1, 3, 4, 4095, 4096, math.MaxInt, math.MinInt} {
		for _, d := range []*disk.Disk{up, down} {
			if b, e := d.Read(n); e != api.ErrArg || len(b) != 0 {
				t.Errorf("Read(%d) with Down %t is %v, %d; want ErrArg", n, d.Down(), b, e)
			}
		}
	}
	for n := range 3 {
		if b, e := down.Read(n); e != api.ErrDown || len(b) != 0 {
			t.Errorf("Read(%d) without power is %v, %d; want ErrDown", n, b, e)
		}
	}
}

// P4.1: the first and the last sector of the least and of the greatest disk, and those beyond them.
func TestEnds(t *testing.T) {
	for _, sectors := range []int{1, 4096} {
		d := made(t, sectors)
		for _, n := range []int{0, sectors - 1} {
			write(t, d, n, full(7))
			wantContent(t, "an end", d, n, full(7))
		}
		for _, n := range []int{-1, sectors} {
			if e := d.Write(n, full(7)); e != api.ErrArg {
				t.Errorf("Write(%d) to %d sectors is %d; want ErrArg", n, sectors, e)
			}
			if b, e := d.Read(n); e != api.ErrArg || len(b) != 0 {
				t.Errorf("Read(%d) of %d sectors is %v, %d; want ErrArg", n, sectors, b, e)
			}
		}
	}
}

// P4.1: Pending and Syncs behind each call.
func TestCounts(t *testing.T) {
	d := made(t, 3)
	for _, c := range []struct {
		what           string
		do             func() api.Errno
		want           api.Errno
		pending, syncs int
	}{
		{"Sync with nothing pending", d.Sync, api.OK, 0, 1},
		{"a write", func() api.Errno { return d.Write(0, full(1)) }, api.OK, 1, 1},
		{"a second write to the sector", func() api.Errno { return d.Write(0, full(1)) }, api.OK, 2, 1},
		{"a write to another one", func() api.Errno { return d.Write(2, full(2)) }, api.OK, 3, 1},
		{"a read", func() api.Errno { _, e := d.Read(0); return e }, api.OK, 3, 1},
		{"a refused write", func() api.Errno { return d.Write(3, full(2)) }, api.ErrArg, 3, 1},
		{"a short write", func() api.Errno { return d.Write(1, nil) }, api.ErrLong, 3, 1},
		{"a crash", func() api.Errno { d.Crash(api.Crash{Keep: []int{0, 1, 2}, Torn: true, Cut: 5}); return api.OK }, api.OK, 3, 1},
		{"Sync", d.Sync, api.OK, 0, 2},
		{"Sync again", d.Sync, api.OK, 0, 3},
		{"a write behind it", func() api.Errno { return d.Write(1, full(3)) }, api.OK, 1, 3},
		{"Fuse", func() api.Errno { d.Fuse(1); return api.OK }, api.OK, 1, 3},
		{"Sync with a fuse of 1", d.Sync, api.OK, 0, 4},
		{"Sync when the power fails", d.Sync, api.ErrDown, 0, 4},
		{"Sync without power", d.Sync, api.ErrDown, 0, 4},
		{"a write without power", func() api.Errno { return d.Write(1, full(3)) }, api.ErrDown, 0, 4},
	} {
		if e := c.do(); e != c.want {
			t.Errorf("%s is %d; want %d", c.what, e, c.want)
		}
		if d.Pending() != c.pending || d.Syncs() != c.syncs || d.Sectors() != 3 {
			t.Errorf("behind %s, Pending is %d, Syncs %d, Sectors %d; want %d, %d, 3", c.what, d.Pending(), d.Syncs(), d.Sectors(), c.pending, c.syncs)
		}
	}
}

// attempt is a write or a synchronization.
func attempt(d *disk.Disk, isSync bool, c byte) api.Errno {
	if isSync {
		return d.Sync()
	}
	return d.Write(0, full(c))
}

// P4.1: with a fuse of n, n writes and synchronizations succeed, whichever they are, and no later one.
func TestFuse(t *testing.T) {
	for fuse := range 7 {
		for which := range 1 << 8 {
			d := made(t, 2)
			d.Fuse(fuse)
			pending, syncs := 0, 0
			for i := range 8 {
				isSync, want := which>>i&1 == 1, api.OK
				if i >= fuse {
					want = api.ErrDown
				} else if isSync {
					pending, syncs = 0, syncs+1
				} else {
					pending++
				}
				wantCounts(t, "ahead of an attempt", d, d.Pending(), d.Syncs(), i > fuse)
				if e := attempt(d, isSync, byte(i)); e != want {
					t.Fatalf("attempt %d (Sync: %t) with a fuse of %d is %d; want %d", i, isSync, fuse, e, want)
				}
				wantCounts(t, "behind an attempt", d, pending, syncs, i >= fuse)
			}
		}
	}
}

// P4.1: without a fuse, and with a negative or the greatest one, the power doesn't fail.
func TestNoFuse(t *testing.T) {
	for _, fuse := range []int{-1, -2, math.MinInt, math.MaxInt, math.MaxInt - 1, 6001} {
		d := made(t, 1)
		d.Fuse(fuse)
		for range 2000 {
			write(t, d, 0, full(1))
			sync(t, d)
			sync(t, d)
		}
		wantCounts(t, "a disk without a fuse that is short", d, 0, 4000, false)
	}
}

// P4.1: only writes that could be made and synchronizations count for the fuse.
func TestWhatCountsForFuse(t *testing.T) {
	for _, fuse := range []int{0, 1, 3} {
		d := made(t, 3)
		write(t, d, 1, full(1))
		d.Fuse(fuse)
		others := func() {
			read(t, d, 0)
			read(t, d, 1)
			d.Read(3)
			d.Read(-1)
			d.Write(3, full(1))
			d.Write(-1, full(1))
			d.Write(3, nil)
			d.Write(0, nil)
			d.Write(0, full(1)[:255])
			d.Write(0, append(full(1), 1))
			d.Crash(api.Crash{Torn: true}).Write(0, full(1))
			d.Crash(api.Crash{}).Sync()
			wantCounts(t, "what doesn't count for the fuse", d, d.Pending(), d.Syncs(), false)
			if n := d.Sectors(); n != 3 {
				t.Errorf("Sectors is %d; want 3", n)
			}
		}
		for i := range fuse {
			others()
			// A synchronization counts with nothing pending, too.
			if e := attempt(d, i > 0, 5); e != api.OK {
				t.Fatalf("attempt %d with a fuse of %d is %d; want OK", i, fuse, e)
			}
		}
		others()
		if e := d.Sync(); e != api.ErrDown || !d.Down() {
			t.Errorf("Sync behind a fuse of %d is %d, and Down %t; want ErrDown", fuse, e, d.Down())
		}
	}
}

// P4.1: a fuse replaces an earlier one, with as much of it as is left.
func TestFuseReplaced(t *testing.T) {
	for _, c := range []struct {
		first, between, second int
		more                   int // attempts that succeed behind the second; negative: all
	}{
		{0, 0, 3, 3},
		{0, 0, -1, -1},
		{0, 0, math.MinInt, -1},
		{0, 0, 0, 0},
		{3, 0, 1, 1},
		{3, 2, 1, 1},
		{3, 2, 5, 5},
		{3, 3, 2, 2},
		{3, 3, -1, -1},
		{3, 1, 0, 0},
		{-1, 4, 2, 2},
		{math.MaxInt, 4, 1, 1},
	} {
		d := made(t, 1)
		d.Fuse(c.first)
		for range c.between {
			write(t, d, 0, full(1))
		}
		d.Fuse(c.second)
		for i := range 50 {
			want := api.OK
			if c.more >= 0 && i >= c.more {
				want = api.ErrDown
			}
			if e := attempt(d, i%3 == 2, byte(i)); e != want || d.Down() != (want != api.OK) {
				t.Fatalf("Fuse(%d), %d writes, Fuse(%d): attempt %d is %d, and Down %t; want %d", c.first, c.between, c.second, i, e, d.Down(), want)
			}
		}
	}
}

// P4.1: a disk that is down stays down, whatever fuse it is given, and keeps what is pending.
func TestDownStaysDown(t *testing.T) {
	for _, fuse := range []int{-1, math.MinInt, 0, 1, 100, math.MaxInt} {
		d := fallen(t)
		d.Fuse(fuse)
		for range 3 {
			wantCounts(t, "a disk without power", d, 2, 1, true)
			if e := d.Write(0, full(8)); e != api.ErrDown {
				t.Errorf("Write without power and a fuse of %d is %d; want ErrDown", fuse, e)
			}
			if e := d.Sync(); e != api.ErrDown {
				t.Errorf("Sync without power and a fuse of %d is %d; want ErrDown", fuse, e)
			}
			if b, e := d.Read(0); e != api.ErrDown || len(b) != 0 {
				t.Errorf("Read without power and a fuse of %d is %v, %d; want ErrDown", fuse, b, e)
			}
		}
		if n := d.Sectors(); n != 3 {
			t.Errorf("Sectors without power is %d; want 3", n)
		}
	}
}

// P4.1: the attempt at which the power fails is not made: nothing was written, nor synchronized.
func TestFailedAttemptIsNotMade(t *testing.T) {
	for _, isSync := range []bool{false, true} {
		d := made(t, 2)
		write(t, d, 0, full(1))
		sync(t, d)
		write(t, d, 0, full(2))
		d.Fuse(0)
		if e := attempt(d, isSync, 3); e != api.ErrDown {
			t.Fatalf("an attempt with a fuse of 0 is %d; want ErrDown", e)
		}
		wantCounts(t, "a failed attempt", d, 1, 1, true)
		wantContent(t, "nothing kept", d.Crash(api.Crash{}), 0, full(1))
		wantContent(t, "all kept", d.Crash(api.Crash{Keep: []int{0, 1}}), 0, full(2))
	}
}

// P4.1: a nil disk, in every method.
func TestNilDisk(t *testing.T) {
	var d *disk.Disk
	for _, fuse := range []int{-1, 0, 5} {
		d.Fuse(fuse)
		for _, n := range []int{0, -1, 4096, math.MaxInt} {
			for _, data := range [][]byte{nil, full(1), {1}} {
				if e := d.Write(n, data); e != api.ErrNil {
					t.Errorf("Write(%d) of %d bytes to a nil disk is %d; want ErrNil", n, len(data), e)
				}
			}
			if b, e := d.Read(n); e != api.ErrNil || len(b) != 0 {
				t.Errorf("Read(%d) of a nil disk is %v, %d; want ErrNil", n, b, e)
			}
		}
		if e := d.Sync(); e != api.ErrNil {
			t.Errorf("Sync of a nil disk is %d; want ErrNil", e)
		}
		wantCounts(t, "a nil disk", d, 0, 0, true)
		if n := d.Sectors(); n != 0 {
			t.Errorf("Sectors of a nil disk is %d; want 0", n)
		}
		for _, c := range []api.Crash{{}, {Keep: []int{0, -1}}, {Torn: true, Cut: 7}} {
			if after := d.Crash(c); after != nil {
				t.Errorf("Crash(%v) of a nil disk is %v; want nil", c, after)
			}
		}
	}
}
