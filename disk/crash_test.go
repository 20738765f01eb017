package disk_test

import (
	"bytes"
	"math"
	"slices"
	"testing"

	"troth/api"
	"troth/disk"
)

// cuts are of all kinds, and around both ends of a sector.
var cuts = []int{math.MinInt, -256, -1, 0, 1, 2, 128, 254, 255, 256, 257, 1000, math.MaxInt}

// sectorWrite is a write, as the tests note it.
type sectorWrite struct {
	n    int
	data []byte
}

// history is what became of a disk: what was synchronized, and the writes since then.
type history struct {
	synced [][]byte
	writes []sectorWrite
}

// start is the history of a disk that is new.
func start(sectors int) *history {
	h := &history{}
	for range sectors {
		h.synced = append(h.synced, make([]byte, api.SectorBytes))
	}
	return h
}

func (h *history) write(n int, data []byte) {
	h.writes = append(h.writes, sectorWrite{n, bytes.Clone(data)})
}

func (h *history) sync() {
	h.synced = h.contents()
	h.writes = nil
}

// contents is what all sectors have.
func (h *history) contents() [][]byte {
	l := slices.Clone(h.synced)
	for _, w := range h.writes {
		l[w.n] = w.data
	}
	return l
}

// crash is what a crash leaves, as the chapter has it.
func (h *history) crash(c api.Crash) [][]byte {
	l := slices.Clone(h.synced)
	for i, w := range h.writes {
		if c.Torn && i == len(h.writes)-1 {
			torn := bytes.Clone(l[w.n])
			for k := 0; k < api.SectorBytes && k < c.Cut; k++ {
				torn[k] = w.data[k]
			}
			l[w.n] = torn
		} else if slices.Contains(c.Keep, i) {
			l[w.n] = w.data
		}
	}
	return l
}

// mayBe tells whether a sector may have a content behind a crash: the synchronized one, that of a write to it, or the beginning of the last write of all followed by the rest of one of these.
func (h *history) mayBe(n int, content []byte) bool {
	whole := [][]byte{h.synced[n]}
	for _, w := range h.writes {
		if w.n == n {
			whole = append(whole, w.data)
		}
	}
	for _, rest := range whole {
		if bytes.Equal(content, rest) {
			return true
		}
		if len(h.writes) == 0 || h.writes[len(h.writes)-1].n != n {
			continue
		}
		begun := h.writes[len(h.writes)-1].data
		for cut := range api.SectorBytes {
			if bytes.Equal(content[:cut], begun[:cut]) && bytes.Equal(content[cut:], rest[cut:]) {
				return true
			}
		}
	}
	return false
}

// wantCrash fails if a disk's crash leaves anything but what the chapter has.
func wantCrash(t *testing.T, d *disk.Disk, h *history, c api.Crash) {
	t.Helper()
	pending, syncs, down := d.Pending(), d.Syncs(), d.Down()
	after := d.Crash(c)
	if after == nil || after.Sectors() != d.Sectors() {
		t.Fatalf("Crash(%v) is %v", c, after)
	}
	wantCounts(t, "a crashed disk", after, 0, 0, false)
	wantCounts(t, "the disk itself", d, pending, syncs, down)
	for n, want := range h.crash(c) {
		got := read(t, after, n)
		if !bytes.Equal(got, want) {
			t.Fatalf("Crash(%v) with %d writes pending leaves %v in sector %d; want %v", c, len(h.writes), got, n, want)
		}
		if !h.mayBe(n, got) {
			t.Fatalf("Crash(%v) with %d writes pending leaves %v in sector %d, which was never written", c, len(h.writes), got, n)
		}
	}
}

// P4.1: the chapter's example, and a torn write beside others to its sector that are kept, or are not.
func TestCrash(t *testing.T) {
	d := made(t, 2)
	write(t, d, 0, full(1))
	sync(t, d)
	write(t, d, 0, full(2))
	write(t, d, 0, full(3))
	for _, c := range []struct {
		crash api.Crash
		three int // how many bytes have 3
		rest  byte
	}{
		{api.Crash{}, 0, 1},
		{api.Crash{Cut: 100}, 0, 1},
		{api.Crash{Keep: []int{0}}, 0, 2},
		{api.Crash{Keep: []int{0}, Cut: 100}, 0, 2},
		{api.Crash{Keep: []int{1}}, 256, 0},
		{api.Crash{Keep: []int{1}, Cut: -1}, 256, 0},
		{api.Crash{Keep: []int{0, 1}}, 256, 0},
		{api.Crash{Keep: []int{1, 0}}, 256, 0},
		{api.Crash{Torn: true}, 0, 1},
		{api.Crash{Torn: true, Cut: -1}, 0, 1},
		{api.Crash{Torn: true, Cut: 3}, 3, 1},
		{api.Crash{Torn: true, Cut: 255}, 255, 1},
		{api.Crash{Torn: true, Cut: 256}, 256, 0},
		{api.Crash{Torn: true, Cut: 257}, 256, 0},
		{api.Crash{Torn: true, Cut: math.MaxInt}, 256, 0},
		{api.Crash{Keep: []int{1}, Torn: true}, 0, 1},
		{api.Crash{Keep: []int{1}, Torn: true, Cut: 3}, 3, 1},
		{api.Crash{Keep: []int{0}, Torn: true}, 0, 2},
		{api.Crash{Keep: []int{0}, Torn: true, Cut: 3}, 3, 2},
		{api.Crash{Keep: []int{1, 0}, Torn: true, Cut: 3}, 3, 2},
		{api.Crash{Keep: []int{1, 0}, Torn: true, Cut: -1}, 0, 2},
	} {
		want := append(full(3)[:c.three], full(c.rest)[c.three:]...)
		wantContent(t, "a crash", d.Crash(c.crash), 0, want)
		wantContent(t, "a crash", d.Crash(c.crash), 1, full(0))
	}
}

// P4.1: Keep without order, with numbers twice, negative and beyond the list.
func TestKeep(t *testing.T) {
	d, h := made(t, 3), start(3)
	for i, n := range []int{0, 1, 0, 2, 1} {
		write(t, d, n, mixed(i))
		h.write(n, mixed(i))
	}
	for _, keep := range [][]int{
		nil, {}, {0}, {4}, {0, 2}, {2, 0}, {4, 3, 2, 1, 0}, {3, 1, 3, 1, 1}, {2, 2, 2, 2, 2, 2, 2, 2},
		{-1}, {5}, {-1, 0, 5, 2}, {math.MaxInt, math.MinInt, 1}, {-5, -4, -3}, {5, 6, 7, 100}, {0, 256, 1 << 32, -1 << 32},
	} {
		for _, torn := range []bool{false, true} {
			kept := slices.Clone(keep)
			wantCrash(t, d, h, api.Crash{Keep: keep, Torn: torn, Cut: 100})
			if !slices.Equal(keep, kept) {
				t.Errorf("Crash changed Keep from %v to %v", kept, keep)
			}
		}
	}
	many := make([]int, 1<<20)
	for i := range many {
		many[i] = i%9 - 2
	}
	wantCrash(t, d, h, api.Crash{Keep: many})
}

// P4.1 and P4.2: all crashes of all lists of up to four writes to two sectors, one of which was synchronized.
func TestAllCrashes(t *testing.T) {
	for writes := range 5 {
		for where := range 1 << writes {
			d, h := made(t, 2), start(2)
			write(t, d, 1, mixed(100))
			h.write(1, mixed(100))
			sync(t, d)
			h.sync()
			for i := range writes {
				n := where >> i & 1
				write(t, d, n, mixed(i))
				h.write(n, mixed(i))
			}
			for which := range 1 << writes {
				var keep []int
				for i := range writes {
					if which>>i&1 == 1 {
						keep = append(keep, i)
					}
				}
				wantCrash(t, d, h, api.Crash{Keep: keep, Cut: 77})
				for _, cut := range cuts {
					wantCrash(t, d, h, api.Crash{Keep: keep, Torn: true, Cut: cut})
				}
			}
		}
	}
}

// P4.1: each cut of a write into a sector.
func TestEachCut(t *testing.T) {
	d, h := made(t, 1), start(1)
	write(t, d, 0, mixed(1))
	h.write(0, mixed(1))
	sync(t, d)
	h.sync()
	write(t, d, 0, mixed(2))
	h.write(0, mixed(2))
	for cut := -2; cut < 260; cut++ {
		wantCrash(t, d, h, api.Crash{Torn: true, Cut: cut})
		wantCrash(t, d, h, api.Crash{Keep: []int{0}, Torn: true, Cut: cut})
	}
}

// P4.1: a crash with nothing pending changes nothing, torn or not.
func TestCrashWithNothingPending(t *testing.T) {
	d, h := made(t, 2), start(2)
	for range 2 {
		for _, c := range []api.Crash{{}, {Torn: true}, {Torn: true, Cut: 5}, {Keep: []int{0, -1, 1}, Torn: true, Cut: 256}, {Keep: []int{0}}} {
			wantCrash(t, d, h, c)
		}
		write(t, d, 1, mixed(1))
		h.write(1, mixed(1))
		sync(t, d)
		h.sync()
	}
}

// P4.1: what is pending when the power fails may be kept or lost as ever, and the disk of a crash has power, and no fuse.
func TestCrashWithoutPower(t *testing.T) {
	d, h := fallen(t), start(3)
	h.write(0, full(1))
	h.sync()
	h.write(0, full(2))
	h.write(1, full(3))
	for _, keep := range [][]int{nil, {0}, {1}, {0, 1}, {0, 1, 2}} {
		for _, fuse := range []int{-1, 0, 1} {
			d.Fuse(fuse)
			wantCrash(t, d, h, api.Crash{Keep: keep})
			wantCrash(t, d, h, api.Crash{Keep: keep, Torn: true, Cut: 9})
			after := d.Crash(api.Crash{Keep: keep})
			for range 10 {
				write(t, after, 2, full(5))
				sync(t, after)
			}
			wantCounts(t, "the disk of a crash", after, 0, 10, false)
		}
	}
}

// P4.1: the disk of a crash has no fuse, though the disk has one that did not go off yet.
func TestCrashWithFuse(t *testing.T) {
	for _, fuse := range []int{0, 1, 3} {
		d := made(t, 1)
		d.Fuse(fuse)
		after := d.Crash(api.Crash{})
		for range 10 {
			write(t, after, 0, full(5))
			sync(t, after)
		}
		for range fuse {
			sync(t, d)
		}
		if e := d.Sync(); e != api.ErrDown {
			t.Errorf("Sync behind a fuse of %d and a crash is %d; want ErrDown", fuse, e)
		}
	}
}

// P4.1: crashes of a crash: what one lost stays lost, and what it kept is synchronized.
func TestCrashOfCrash(t *testing.T) {
	d := made(t, 2)
	write(t, d, 0, full(1))
	write(t, d, 1, full(2))
	write(t, d, 0, full(3))
	first := d.Crash(api.Crash{Keep: []int{1}, Torn: true, Cut: 10})
	write(t, first, 1, full(4))
	for _, c := range []api.Crash{{}, {Torn: true}} {
		second := first.Crash(c)
		wantContent(t, "a crash of a crash", second, 0, append(full(3)[:10], full(0)[10:]...))
		wantContent(t, "a crash of a crash", second, 1, full(2))
	}
	wantContent(t, "a crash of a crash, kept", first.Crash(api.Crash{Keep: []int{0}}), 1, full(4))
}

// draw is numbers without a pattern, always the same ones.
type draw uint64

// below is a number from 0 to n - 1.
func (d *draw) below(n int) int {
	*d = *d*6364136223846793005 + 1442695040888963407
	return int(uint64(*d) >> 33 % uint64(n))
}

// crash is one of any kind, of a disk with so many writes pending.
func (d *draw) crash(pending int) api.Crash {
	var keep []int
	for range d.below(pending + 4) {
		keep = append(keep, d.below(pending+4)-2)
	}
	return api.Crash{Keep: keep, Torn: d.below(2) == 1, Cut: cuts[d.below(len(cuts))]}
}

// P4.2 and P4.3: disks that are used for long, with what their crashes leave. With all writes kept that is what Read returned, with none kept and none torn what it returned at the last Sync.
func TestCrashesOfLongUse(t *testing.T) {
	var r draw
	for range 40 {
		sectors := 1 + r.below(6)
		d, h := made(t, sectors), start(sectors)
		atSync := readAll(t, d)
		for i := range 120 {
			if r.below(9) == 0 {
				sync(t, d)
				h.sync()
				atSync = readAll(t, d)
			} else {
				n := r.below(sectors)
				write(t, d, n, mixed(i))
				h.write(n, mixed(i))
			}
			wantCrash(t, d, h, r.crash(d.Pending()))
			wantSame(t, "all kept", readAll(t, d.Crash(api.Crash{Keep: all(d)})), readAll(t, d))
			wantSame(t, "all kept, the last one whole", readAll(t, d.Crash(api.Crash{Keep: all(d), Torn: true, Cut: 256})), readAll(t, d))
			wantSame(t, "none kept", readAll(t, d.Crash(api.Crash{})), atSync)
			if r.below(30) == 0 {
				c := r.crash(d.Pending())
				h.synced, h.writes = h.crash(c), nil
				d = d.Crash(c)
				atSync = readAll(t, d)
			}
		}
	}
}

// all are the numbers of all pending writes.
func all(d *disk.Disk) []int {
	var l []int
	for i := range d.Pending() {
		l = append(l, i)
	}
	return l
}

// wantSame fails if sectors have other contents.
func wantSame(t *testing.T, what string, got, want [][]byte) {
	t.Helper()
	if len(got) != len(want) {
		t.Fatalf("%s: there are %d sectors; want %d", what, len(got), len(want))
	}
	for n := range want {
		if !bytes.Equal(got[n], want[n]) {
			t.Fatalf("%s: sector %d has %v; want %v", what, n, got[n], want[n])
		}
	}
}

// P4.4: what is done to a disk is not done to the disk of its crash, nor the other way round.
func TestCrashIsIndependent(t *testing.T) {
	d := made(t, 4)
	write(t, d, 0, full(1))
	sync(t, d)
	write(t, d, 1, full(2))
	write(t, d, 2, full(3))
	before := readAll(t, d)
	kept, none := d.Crash(api.Crash{Keep: []int{0, 1}}), d.Crash(api.Crash{})
	afterKept, afterNone := readAll(t, kept), readAll(t, none)
	for n := range 4 {
		write(t, kept, n, full(77))
	}
	sync(t, kept)
	kept.Fuse(0)
	kept.Sync()
	wantCounts(t, "the disk itself", d, 2, 1, false)
	wantCounts(t, "another crash of it", none, 0, 0, false)
	wantSame(t, "the disk itself", readAll(t, d), before)
	wantSame(t, "another crash of it", readAll(t, none), afterNone)
	wantSame(t, "what the disk keeps", readAll(t, d.Crash(api.Crash{Keep: []int{0, 1}})), afterKept)
	for n := range 4 {
		write(t, d, n, full(88))
	}
	sync(t, d)
	for n := range 4 {
		write(t, d, n, full(99))
	}
	d.Fuse(0)
	d.Sync()
	wantCounts(t, "a crash of it", none, 0, 0, false)
	wantSame(t, "a crash of it", readAll(t, none), afterNone)
	again := kept.Crash(api.Crash{})
	for n := range 4 {
		wantContent(t, "a crash of the crash", again, n, full(77))
	}
}

// P4.4: a disk minds neither what becomes of the bytes that it was given, nor what becomes of those that it returned.
func TestDiskSharesNothing(t *testing.T) {
	d := made(t, 2)
	whole := append(mixed(1), 1, 2, 3)
	kept := bytes.Clone(whole)
	write(t, d, 0, whole[:api.SectorBytes])
	if !bytes.Equal(whole, kept) {
		t.Errorf("Write changed its bytes to %v", whole)
	}
	for range 2 {
		for i := range whole {
			whole[i] ^= 99
		}
		first, second := read(t, d, 0), read(t, d, 0)
		for i := range first[:cap(first)] {
			first[:cap(first)][i] ^= 55
		}
		wantContent(t, "behind changes of what was passed and returned", d, 0, mixed(1))
		if !bytes.Equal(second, mixed(1)) {
			t.Errorf("a change of what Read returned changes what it had returned before: %v", second)
		}
		if empty := read(t, d, 1); len(empty) == api.SectorBytes {
			empty[0] = 1
			wantContent(t, "a sector that was never written", d, 1, full(0))
		}
		sync(t, d)
	}
	before := read(t, d, 0)
	write(t, d, 0, mixed(2))
	sync(t, d)
	write(t, d, 0, mixed(3))
	if !bytes.Equal(before, mixed(1)) {
		t.Errorf("writing on changes what Read returned: %v", before)
	}
}

// P4.4: the same array may be written again and again.
func TestOneArrayForAllWrites(t *testing.T) {
	d, h := made(t, 8), start(8)
	data := make([]byte, api.SectorBytes)
	for i := range 30 {
		copy(data, mixed(i))
		write(t, d, i%8, data)
		h.write(i%8, data)
		if i == 11 || i == 12 {
			sync(t, d)
			h.sync()
		}
		wantCrash(t, d, h, api.Crash{Keep: []int{0, 2, 5}, Torn: true, Cut: i})
	}
	wantSame(t, "one array for all writes", readAll(t, d), h.contents())
}

// outcome is all that a call of a disk answers, and what it is seen to leave.
type outcome struct {
	e              api.Errno
	content        string
	pending, syncs int
	down           bool
}

// act is a call of any kind with any arguments, and its outcome.
func (r *draw) act(d *disk.Disk) (*disk.Disk, outcome) {
	numbers := []int{math.MinInt, -1, 0, 0, 1, 1, 2, 3, 4096, math.MaxInt}
	lengths := []int{0, 1, 255, 256, 256, 256, 256, 256, 257}
	var o outcome
	switch r.below(8) {
	case 0, 1, 2:
		n, data := numbers[r.below(len(numbers))], make([]byte, lengths[r.below(len(lengths))])
		for i := range data {
			data[i] = byte(r.below(256))
		}
		o.e = d.Write(n, data)
	case 3:
		o.e = d.Sync()
	case 4, 5:
		var b []byte
		b, o.e = d.Read(numbers[r.below(len(numbers))])
		o.content = string(b)
	case 6:
		d.Fuse([]int{math.MinInt, -1, 0, 5, 40, math.MaxInt}[r.below(6)])
	default:
		if c := r.crash(3); d.Down() {
			d = d.Crash(c)
		}
	}
	o.pending, o.syncs, o.down = d.Pending(), d.Syncs(), d.Down()
	return d, o
}

// P0.1 and P0.5: whatever is passed, nothing panics, and the same calls have the same results.
func TestSameCallsSameResults(t *testing.T) {
	one, two := made(t, 3), made(t, 3)
	var r, s draw
	for i := range 20000 {
		var a, b outcome
		one, a = r.act(one)
		two, b = s.act(two)
		if a != b {
			t.Fatalf("call %d has the outcomes %v and %v", i, a, b)
		}
	}
}
