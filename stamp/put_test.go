package stamp_test

import (
	"bytes"
	"math"
	"slices"
	"testing"

	"troth/api"
	"troth/disk"
	"troth/stamp"
)

// beyond are numbers that no sector of a disk of three has.
var beyond = []int{math.MinInt, -4096, -1, 3, 4, 4095, 4096, math.MaxInt}

// made is a disk of a number of sectors that there may be.
func made(t *testing.T, sectors int) *disk.Disk {
	t.Helper()
	d, e := disk.New(sectors)
	if e != api.OK {
		t.Fatalf("New(%d) fails with %d", sectors, e)
	}
	return d
}

// write writes a sector, as it is.
func write(t *testing.T, d *disk.Disk, n int, sector []byte) {
	t.Helper()
	if e := d.Write(n, sector); e != api.OK {
		t.Fatalf("Write(%d) of %d bytes fails with %d", n, len(sector), e)
	}
}

// sync synchronizes a disk.
func sync(t *testing.T, d *disk.Disk) {
	t.Helper()
	if e := d.Sync(); e != api.OK {
		t.Fatalf("Sync fails with %d", e)
	}
}

// holding is a disk of three sectors, the middle one of which has this content, synchronized.
func holding(t *testing.T, content []byte) *disk.Disk {
	t.Helper()
	d := made(t, 3)
	write(t, d, 0, sectorOf(1, 1, 70))
	write(t, d, 1, content)
	write(t, d, 2, sectorOf(2, 2, 71))
	sync(t, d)
	return d
}

// fallen is a disk of three sectors that is down.
func fallen(t *testing.T) *disk.Disk {
	t.Helper()
	d := holding(t, sectorOf(3, 3, 72))
	d.Fuse(0)
	if e := d.Sync(); e != api.ErrDown {
		t.Fatalf("Sync with a fuse of 0 is %d; want ErrDown", e)
	}
	return d
}

// content is what a sector has.
func content(t *testing.T, d *disk.Disk, n int) []byte {
	t.Helper()
	b, e := d.Read(n)
	if e != api.OK {
		t.Fatalf("Read(%d) fails with %d", n, e)
	}
	return b
}

// put puts a payload into a sector, which should succeed.
func put(t *testing.T, d *disk.Disk, n int, payload []byte) {
	t.Helper()
	if e := stamp.Put(d, n, payload); e != api.OK {
		t.Fatalf("Put(%d) of %d bytes fails with %d", n, len(payload), e)
	}
}

// wantPut fails if Put is another error, or writes anything.
func wantPut(t *testing.T, what string, d *disk.Disk, n int, payload []byte, want api.Errno) {
	t.Helper()
	pending, syncs := d.Pending(), d.Syncs()
	if e := stamp.Put(d, n, payload); e != want {
		t.Errorf("%s: Put(%d) of %d bytes is %d; want %d", what, n, len(payload), e, want)
	}
	if d.Pending() != pending || d.Syncs() != syncs {
		t.Errorf("%s: Put(%d) of %d bytes leaves %d writes pending and %d synchronizations; want %d, %d", what, n, len(payload), d.Pending(), d.Syncs(), pending, syncs)
	}
}

// wantContent fails if a sector has another content.
func wantContent(t *testing.T, what string, d *disk.Disk, n int, want []byte) {
	t.Helper()
	if b := content(t, d, n); !bytes.Equal(b, want) {
		t.Errorf("%s: sector %d has %v; want %v", what, n, b, want)
	}
}

// wantGot fails if Get is not these bytes and OK.
func wantGot(t *testing.T, what string, d *disk.Disk, n int, want []byte) {
	t.Helper()
	if b, e := stamp.Get(d, n); e != api.OK || !bytes.Equal(b, want) {
		t.Errorf("%s: Get(%d) is %v, %d; want %v, OK", what, n, b, e, want)
	}
}

// wantNotGot fails if Get is not an error, with no bytes beside it.
func wantNotGot(t *testing.T, what string, d *disk.Disk, n int, want api.Errno) {
	t.Helper()
	if b, e := stamp.Get(d, n); e != want || len(b) != 0 {
		t.Errorf("%s: Get(%d) is %v, %d; want nothing, %d", what, n, b, e, want)
	}
}

// P5.1: Put writes the stamped sector with the next stamp, for each first and last byte that was there, and nothing else.
func TestPutOverAllEnds(t *testing.T) {
	d, payload := made(t, 3), noise(254, 1)
	for first := range 256 {
		for last := range 256 {
			old := sectorOf(byte(first), byte(last), first^last)
			write(t, d, 1, old)
			sync(t, d)
			syncs := d.Syncs()
			put(t, d, 1, payload)
			if d.Pending() != 1 || d.Syncs() != syncs {
				t.Fatalf("Put leaves %d writes pending behind %d synchronizations; want 1, %d", d.Pending(), d.Syncs(), syncs)
			}
			if b, want := content(t, d, 1), model(modelNext(byte(first), byte(last)), payload); !bytes.Equal(b, want) {
				t.Fatalf("Put over %d .. %d writes %v; want %v", first, last, b, want)
			}
		}
	}
	wantContent(t, "a sector beside it", d, 0, make([]byte, 256))
	wantContent(t, "a sector beside it", d, 2, make([]byte, 256))
}

// P5.1: Put and Get of payloads of each length that fits, over a longer and over a shorter one.
func TestPutAndGetOfEachLength(t *testing.T) {
	for _, start := range [][]byte{make([]byte, 256), bytes.Repeat([]byte{255}, 256), sectorOf(2, 2, 3)} {
		d := holding(t, start)
		for _, n := range slices.Concat([]int{254, 0, 253, 1, 0, 254}, allLengths()) {
			payload := noise(n, n)
			put(t, d, 1, payload)
			wantGot(t, "what was put", d, 1, padded(payload))
			wantGot(t, "what was put, again", d, 1, padded(payload))
		}
		wantContent(t, "a sector beside it", d, 0, sectorOf(1, 1, 70))
		wantContent(t, "a sector beside it", d, 2, sectorOf(2, 2, 71))
	}
}

// allLengths are those of all payloads that fit.
func allLengths() []int {
	var l []int
	for n := range api.Payload + 1 {
		l = append(l, n)
	}
	return l
}

// P5.1: the sectors at both ends of disks, and those beyond them.
func TestEnds(t *testing.T) {
	for _, sectors := range []int{1, 2, 4096} {
		d := made(t, sectors)
		for _, n := range []int{0, sectors - 1} {
			put(t, d, n, noise(100, n))
			wantGot(t, "an end", d, n, padded(noise(100, n)))
		}
		for _, n := range []int{math.MinInt, -1, sectors, sectors + 1, math.MaxInt} {
			wantPut(t, "beyond an end", d, n, noise(100, n), api.ErrArg)
			wantNotGot(t, "beyond an end", d, n, api.ErrArg)
		}
	}
}

// P5.1: each sector has its own payload.
func TestManySectors(t *testing.T) {
	d := made(t, 60)
	for round := range 5 {
		for n := range 60 {
			put(t, d, n, noise(4*n, n+100*round))
		}
		for n := range 60 {
			wantGot(t, "one of many", d, n, padded(noise(4*n, n+100*round)))
			wantContent(t, "one of many", d, n, model(byte([]int{1, 2}[round%2]), noise(4*n, n+100*round)))
		}
		sync(t, d)
	}
}

// P5.1: the errors of Put, and their order: of the length, of reading, of writing. None of them writes anything.
func TestPutErrors(t *testing.T) {
	for _, size := range slices.Concat(tooLong, lengths) {
		payload := noise(size, 1)
		or := func(e api.Errno) api.Errno {
			if size > api.Payload {
				return api.ErrLong
			}
			return e
		}
		for _, n := range append([]int{0, 1, 2}, beyond...) {
			wantPut(t, "a nil disk", nil, n, payload, or(api.ErrNil))
		}
		for _, n := range beyond {
			wantPut(t, "a disk", made(t, 3), n, payload, or(api.ErrArg))
			wantPut(t, "a disk that is down", fallen(t), n, payload, or(api.ErrArg))
		}
		for n := range 3 {
			wantPut(t, "a disk that is down", fallen(t), n, payload, or(api.ErrDown))
			if size > api.Payload {
				wantPut(t, "a disk", made(t, 3), n, payload, api.ErrLong)
			}
		}
	}
}

// P5.1: the power fails between Put's Read and its Write: nothing was written, and the disk is down.
func TestPutWhenPowerFails(t *testing.T) {
	for _, old := range [][]byte{make([]byte, 256), sectorOf(1, 1, 1), sectorOf(2, 3, 2)} {
		d := holding(t, old)
		d.Fuse(0)
		wantContent(t, "a disk with a fuse of 0", d, 1, old)
		wantPut(t, "a disk with a fuse of 0", d, 1, noise(254, 3), api.ErrDown)
		if !d.Down() {
			t.Error("Put with a fuse of 0 lets the disk stay up")
		}
		wantPut(t, "a disk that is down", d, 1, noise(254, 3), api.ErrDown)
		wantNotGot(t, "a disk that is down", d, 1, api.ErrDown)
		wantContent(t, "a crash behind it", d.Crash(api.Crash{Keep: []int{0, 1}, Torn: true, Cut: 256}), 1, old)
	}
}

// P5.1: Put takes one step of a fuse, Get and a Put that is refused take none.
func TestStepsOfPut(t *testing.T) {
	for fuse := range 6 {
		d := made(t, 3)
		d.Fuse(fuse)
		for i := range fuse {
			put(t, d, 0, noise(50, i))
			wantPut(t, "too much", d, 0, noise(255, i), api.ErrLong)
			wantPut(t, "no sector", d, 3, noise(50, i), api.ErrArg)
			wantGot(t, "what was put", d, 0, padded(noise(50, i)))
			wantNotGot(t, "nothing put", d, 1, api.ErrTorn)
			if d.Pending() != i+1 || d.Down() {
				t.Fatalf("behind %d of %d puts, Pending is %d, and Down %t", i+1, fuse, d.Pending(), d.Down())
			}
		}
		wantPut(t, "too much", d, 0, noise(255, 0), api.ErrLong)
		if d.Down() {
			t.Fatalf("behind %d puts with a fuse of %d, the disk is down", fuse, fuse)
		}
		wantPut(t, "a put too many", d, 0, noise(50, 9), api.ErrDown)
	}
}

// P5.1: the errors of Get, and their order: of reading, of opening.
func TestGetErrors(t *testing.T) {
	for _, n := range append([]int{0, 1, 2}, beyond...) {
		wantNotGot(t, "a nil disk", nil, n, api.ErrNil)
	}
	for _, n := range beyond {
		wantNotGot(t, "a disk", made(t, 3), n, api.ErrArg)
		wantNotGot(t, "a disk that is down", fallen(t), n, api.ErrArg)
	}
	torn := made(t, 3)
	torn.Fuse(0)
	torn.Sync()
	for n := range 3 {
		wantNotGot(t, "a new disk", made(t, 3), n, api.ErrTorn)
		wantNotGot(t, "a disk that is down", fallen(t), n, api.ErrDown)
		wantNotGot(t, "a disk that is down, with nothing put", torn, n, api.ErrDown)
	}
}

// P5.1: Get of a sector with each first and last byte.
func TestGet(t *testing.T) {
	d := made(t, 2)
	for first := range 256 {
		for _, last := range []int{first, 0, 1, 2, 3, 4, 255, first ^ 255} {
			sector := sectorOf(byte(first), byte(last), first+last)
			write(t, d, 1, sector)
			if isIntact(sector) {
				wantGot(t, "a sector that is intact", d, 1, sector[1:255])
			} else {
				wantNotGot(t, "a sector that is not", d, 1, api.ErrTorn)
			}
			sync(t, d)
			if d.Pending() != 0 {
				t.Fatal("Get wrote something")
			}
		}
	}
}

// P5.1: over a pending write, the next stamp is that for what this one wrote, and not for what is synchronized.
func TestPutOverPending(t *testing.T) {
	ends := []byte{0, 1, 2, 3, 4, 255}
	for _, synced := range ends {
		for _, first := range ends {
			for _, last := range ends {
				d := holding(t, sectorOf(synced, synced, 1))
				write(t, d, 1, sectorOf(first, last, 2))
				write(t, d, 0, sectorOf(2, 3, 3))
				put(t, d, 1, noise(200, 4))
				want := model(modelNext(first, last), noise(200, 4))
				wantContent(t, "a pending write that was put over", d, 1, want)
				wantContent(t, "all kept", d.Crash(api.Crash{Keep: []int{0, 1, 2}}), 1, want)
				wantContent(t, "the last one lost", d.Crash(api.Crash{Keep: []int{0, 1}}), 1, sectorOf(first, last, 2))
				wantContent(t, "the last one kept", d.Crash(api.Crash{Keep: []int{2}}), 1, want)
				if d.Pending() != 3 {
					t.Fatalf("%d writes are pending; want 3", d.Pending())
				}
			}
		}
	}
}

// P5.1: puts one behind the other, synchronized or not: each has the stamp that the one before hasn't.
func TestPutOverPut(t *testing.T) {
	for _, every := range []int{1, 2, 3, 100} {
		d := made(t, 1)
		for i := range 40 {
			put(t, d, 0, noise(30, i))
			wantContent(t, "a put over a put", d, 0, model([]byte{1, 2}[i%2], noise(30, i)))
			if i%every == 0 {
				sync(t, d)
			}
		}
	}
}

// crashes are those that tear the last of so many pending writes behind a number of bytes, with and without the others and itself kept.
func crashes(pending, cut int) []api.Crash {
	var others []int
	for i := range pending - 1 {
		others = append(others, i)
	}
	l := []api.Crash{{}, {Keep: others}, {Keep: []int{pending - 1}}, {Keep: append(slices.Clone(others), pending-1)}}
	for i := range l {
		l[i].Torn, l[i].Cut = true, cut
	}
	return l
}

// wantAfterCrash fails if a sector isn't what P5.4 has: behind no byte of the write the old content, behind all of them the new payload, and else not intact.
func wantAfterCrash(t *testing.T, after *disk.Disk, old, payload []byte, cut int) {
	t.Helper()
	b, e := stamp.Get(after, 1)
	there := content(t, after, 1)
	switch {
	case cut <= 0:
		if !bytes.Equal(there, old) || isIntact(old) != (e == api.OK) {
			t.Fatalf("a put of which nothing lasts leaves %v, %d; want %v", there, e, old)
		}
	case cut >= api.SectorBytes:
		if e != api.OK || !bytes.Equal(b, padded(payload)) {
			t.Fatalf("a put that lasts over %d .. %d leaves %v, %d; want %v", old[0], old[255], b, e, payload)
		}
	default:
		if e != api.ErrTorn || len(b) != 0 || isIntact(there) {
			t.Fatalf("a put over %d .. %d, torn behind %d bytes, is got as %v, %d; want ErrTorn", old[0], old[255], cut, b, e)
		}
	}
}

// P5.4: torn at each byte, over what is intact, what is not, and zero bytes, with other writes pending ahead of it or not.
func TestTornPut(t *testing.T) {
	olds := [][]byte{make([]byte, 256), sectorOf(1, 1, 1), sectorOf(2, 2, 2), sectorOf(3, 3, 3), model(1, nil), bytes.Repeat([]byte{2}, 256)}
	for _, first := range []byte{0, 1, 2, 3, 4, 255} {
		for _, last := range []byte{0, 1, 2, 3, 4, 255} {
			olds = append(olds, sectorOf(first, last, 4))
		}
	}
	for _, old := range olds {
		for _, payload := range [][]byte{nil, {7}, noise(253, 5), noise(254, 6), bytes.Clone(old[1:255])} {
			for others := range 2 {
				d := holding(t, old)
				for range others {
					put(t, d, 0, noise(10, 7))
					put(t, d, 2, noise(10, 8))
				}
				put(t, d, 1, payload)
				for cut := -1; cut <= 257; cut++ {
					for _, c := range crashes(d.Pending(), cut) {
						wantAfterCrash(t, d.Crash(c), old, payload, cut)
					}
				}
			}
		}
	}
}

// P5.4: over each first and last byte, torn around both ends and in between.
func TestTornPutOverAllEnds(t *testing.T) {
	for first := range 256 {
		for last := range 256 {
			old := sectorOf(byte(first), byte(last), first+2*last)
			d := holding(t, old)
			put(t, d, 1, noise(254, 1))
			for _, cut := range []int{0, 1, 128, 255, 256} {
				wantAfterCrash(t, d.Crash(api.Crash{Torn: true, Cut: cut}), old, noise(254, 1), cut)
			}
		}
	}
}

// P5.4: torn over what torn puts left, again and again, a whole one now and then.
func TestTornPutOverTornPut(t *testing.T) {
	for step := 1; step <= 257; step += 4 {
		d := holding(t, make([]byte, 256))
		for i := range 60 {
			old, payload, cut := content(t, d, 1), noise(254-i, i), (i+1)*step%258
			put(t, d, 1, payload)
			d = d.Crash(api.Crash{Torn: true, Cut: cut})
			wantAfterCrash(t, d, old, payload, cut)
		}
	}
}

// P0.3: a disk minds neither what becomes of a payload that was put, nor of one that was got, and no payload is changed.
func TestDiskSharesNothing(t *testing.T) {
	for _, n := range lengths {
		d := made(t, 3)
		whole := noise(n+300, 1)
		put(t, d, 1, whole[:n])
		if !bytes.Equal(whole, noise(n+300, 1)) {
			t.Fatalf("Put of the first %d bytes changed them to %v", n, whole)
		}
		for range 2 {
			spoil(whole)
			first, _ := stamp.Get(d, 1)
			second, _ := stamp.Get(d, 1)
			spoil(first)
			want := padded(noise(n+300, 1)[:n])
			wantGot(t, "behind changes of what was put and got", d, 1, want)
			if !bytes.Equal(second, want) {
				t.Errorf("a change of what Get returned changes what it returned before")
			}
			sync(t, d)
		}
	}
}

// P0.4: nil is as good as an empty payload.
func TestPutNil(t *testing.T) {
	for _, payload := range [][]byte{nil, {}} {
		d := holding(t, sectorOf(1, 2, 1))
		put(t, d, 1, payload)
		wantContent(t, "no payload", d, 1, model(3, nil))
		wantPut(t, "no payload, on a nil disk", nil, 1, payload, api.ErrNil)
	}
}

// draw is numbers without a pattern, always the same ones.
type draw uint64

// below is a number from 0 to n - 1.
func (d *draw) below(n int) int {
	*d = *d*6364136223846793005 + 1442695040888963407
	return int(uint64(*d) >> 33 % uint64(n))
}

// outcome is what a call answers, and what it is seen to leave.
type outcome struct {
	e              api.Errno
	payload        string
	pending, syncs int
	down           bool
}

// act is a call of any kind with any arguments, and its outcome.
func (r *draw) act(d *disk.Disk) (*disk.Disk, outcome) {
	n := []int{math.MinInt, -1, 0, 1, 2, 0, 1, 2, 3, math.MaxInt}[r.below(10)]
	size := []int{0, 1, 100, 253, 254, 254, 255, 1000}[r.below(8)]
	var o outcome
	switch r.below(7) {
	case 0, 1, 2:
		o.e = stamp.Put(d, n, noise(size, r.below(1000)))
	case 3, 4:
		var b []byte
		b, o.e = stamp.Get(d, n)
		o.payload = string(b)
	case 5:
		d.Fuse(r.below(30))
	default:
		d = d.Crash(api.Crash{Keep: []int{0, 2, 3}, Torn: true, Cut: r.below(258)})
	}
	o.pending, o.syncs, o.down = d.Pending(), d.Syncs(), d.Down()
	return d, o
}

// P0.1 and P0.5: whatever is passed, nothing panics, and the same calls have the same results.
func TestSameCallsSameResults(t *testing.T) {
	one, two := made(t, 3), made(t, 3)
	var r, s draw
	for i := range 20000 {
		var a, b outcome
		one, a = r.act(one)
		two, b = s.act(two)
		if a != b {
			t.Fatalf("call %d has the outcomes %v and %v", i, a, b)
		}
	}
}
