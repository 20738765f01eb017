package master_test

import (
	"bytes"
	"math"
	"slices"
	"testing"

	"troth/api"
	"troth/disk"
	"troth/master"
)

const most = 1 << 40 // of each number of a valid record

// gens are Gens of valid records: the edges, even and odd ones, and those at which an encoding becomes longer.
var gens = []int{1, 2, 3, 4, 126, 127, 128, 129, 300, 16383, 16384, 1 << 21, 1<<21 - 1, 1<<35 - 1, 1 << 35, most - 2, most - 1, most}

// fields are what the other numbers of a valid record may be.
var fields = []int{0, 1, 127, 128, 16384, most - 1, most}

// notNumbers are what no number of a valid record may be.
var notNumbers = []int{-1, most + 1, -2, most + 2, -most, 2 * most, 1 << 41, 1<<48 + 1, math.MinInt, math.MaxInt, math.MinInt + 1}

// recordOf is a valid record with this Gen, and other numbers that hang on it.
func recordOf(gen int) api.Master {
	return api.Master{Gen: gen, Inc: gen / 2, First: gen % 1024, Lsn: most - gen, Check: gen / 3}
}

// isValid tells whether a record is valid, as the chapter has it.
func isValid(m api.Master) bool {
	in := func(n, least int) bool { return least <= n && n <= most }
	return in(m.Gen, 1) && in(m.Inc, 0) && in(m.First, 0) && in(m.Lsn, 0) && in(m.Check, 0)
}

// digits are a number's encoding, as layer 1 has it.
func digits(n uint64) []byte {
	b := []byte{byte(n % 128)}
	for n /= 128; n > 0; n /= 128 {
		b = append([]byte{byte(n%128) + 128}, b...)
	}
	return b
}

// listOf is the encodings of numbers, one behind the other.
func listOf(numbers ...uint64) []byte {
	var b []byte
	for _, n := range numbers {
		b = append(b, digits(n)...)
	}
	return b
}

// encoded is a record's numbers as they are stored.
func encoded(m api.Master) []byte {
	return listOf(uint64(m.Gen), uint64(m.Inc), uint64(m.First), uint64(m.Lsn), uint64(m.Check))
}

// stamped is a sector with a payload, followed by zero bytes, between two stamps.
func stamped(mark byte, payload []byte) []byte {
	return slices.Concat([]byte{mark}, payload, make([]byte, api.Payload-len(payload)), []byte{mark})
}

// noise is n bytes without a pattern, those of a seed always the same ones.
func noise(n, seed int) []byte {
	b := make([]byte, n)
	state := uint32(seed)*2654435761 + 1
	for i := range b {
		state = state*1664525 + 1013904223
		b[i] = byte(state >> 24)
	}
	return b
}

// made is a disk of a number of sectors that there may be.
func made(t *testing.T, sectors int) *disk.Disk {
	t.Helper()
	d, e := disk.New(sectors)
	if e != api.OK {
		t.Fatalf("New(%d) fails with %d", sectors, e)
	}
	return d
}

// write writes a sector, as it is.
func write(t *testing.T, d *disk.Disk, n int, sector []byte) {
	t.Helper()
	if e := d.Write(n, sector); e != api.OK {
		t.Fatalf("Write(%d) of %d bytes fails with %d", n, len(sector), e)
	}
}

// sync synchronizes a disk.
func sync(t *testing.T, d *disk.Disk) {
	t.Helper()
	if e := d.Sync(); e != api.OK {
		t.Fatalf("Sync fails with %d", e)
	}
}

// holding is a disk of three sectors whose first two have these contents, synchronized.
func holding(t *testing.T, zero, one []byte) *disk.Disk {
	t.Helper()
	d := made(t, 3)
	write(t, d, 0, zero)
	write(t, d, 1, one)
	sync(t, d)
	return d
}

// fallen is a disk that is down, of so many sectors, the first of which has a record.
func fallen(t *testing.T, sectors int) *disk.Disk {
	t.Helper()
	d := made(t, sectors)
	save(t, d, recordOf(2))
	d.Fuse(0)
	if e := d.Sync(); e != api.ErrDown {
		t.Fatalf("Sync with a fuse of 0 is %d; want ErrDown", e)
	}
	return d
}

// save saves a record, which should succeed.
func save(t *testing.T, d *disk.Disk, m api.Master) {
	t.Helper()
	if e := master.Save(d, m); e != api.OK {
		t.Fatalf("Save of %v fails with %d", m, e)
	}
}

// wantNotSaved fails if Save is another error, or leaves another number of pending writes or synchronizations.
func wantNotSaved(t *testing.T, what string, d *disk.Disk, m api.Master, want api.Errno) {
	t.Helper()
	pending, syncs := d.Pending(), d.Syncs()
	if e := master.Save(d, m); e != want {
		t.Errorf("%s: Save of %v is %d; want %d", what, m, e, want)
	}
	if d.Pending() != pending || d.Syncs() != syncs {
		t.Errorf("%s: Save of %v leaves %d writes pending and %d synchronizations; want %d, %d", what, m, d.Pending(), d.Syncs(), pending, syncs)
	}
}

// wantLoaded fails if Load is not this record and OK.
func wantLoaded(t *testing.T, what string, d *disk.Disk, want api.Master) {
	t.Helper()
	if m, e := master.Load(d); e != api.OK || m != want {
		t.Errorf("%s: Load is %v, %d; want %v, OK", what, m, e, want)
	}
}

// wantNotLoaded fails if Load is not an error, with the zero record beside it.
func wantNotLoaded(t *testing.T, what string, d *disk.Disk, want api.Errno) {
	t.Helper()
	if m, e := master.Load(d); e != want || m != (api.Master{}) {
		t.Errorf("%s: Load is %v, %d; want the zero record, %d", what, m, e, want)
	}
}

// wantLoad fails if Load is not a record, or ErrLost for the zero one.
func wantLoad(t *testing.T, what string, d *disk.Disk, want api.Master) {
	t.Helper()
	if want == (api.Master{}) {
		wantNotLoaded(t, what, d, api.ErrLost)
	} else {
		wantLoaded(t, what, d, want)
	}
}

// wantContent fails if a sector has another content.
func wantContent(t *testing.T, what string, d *disk.Disk, n int, want []byte) {
	t.Helper()
	if b, e := d.Read(n); e != api.OK || !bytes.Equal(b, want) {
		t.Errorf("%s: sector %d has %v, %d; want %v", what, n, b, e, want)
	}
}

// P6.1: the chapter's example.
func TestExample(t *testing.T) {
	first, second := recordOf(1), recordOf(2)
	d := made(t, 2)
	save(t, d, first)
	save(t, d, second)
	wantLoaded(t, "two saved", d, second)

	d = made(t, 2)
	save(t, d, first)
	d.Fuse(1)
	if e := master.Save(d, second); e != api.ErrDown {
		t.Errorf("Save with a fuse of 1 is %d; want ErrDown", e)
	}
	wantLoaded(t, "the second one torn", d.Crash(api.Crash{Torn: true, Cut: 100}), first)
}

// P6.1: the bytes of both sectors behind Save, where they can be told at a glance.
func TestBytesOfSave(t *testing.T) {
	d := made(t, 3)
	save(t, d, api.Master{Gen: 1, Inc: 2, First: 3, Lsn: 300, Check: 0})
	odd := append([]byte{1, 1, 2, 3, 0x82, 0x2C, 0}, make([]byte, 249)...)
	odd[255] = 1
	wantContent(t, "nothing saved", d, 0, make([]byte, 256))
	wantContent(t, "Gen 1 saved", d, 1, odd)

	save(t, d, api.Master{Gen: 2, Inc: 127, First: 128, Lsn: 5, Check: 1 << 40})
	even := append([]byte{1, 2, 127, 0x81, 0, 5, 0xA0, 0x80, 0x80, 0x80, 0x80, 0}, make([]byte, 244)...)
	even[255] = 1
	wantContent(t, "Gen 2 saved", d, 0, even)
	wantContent(t, "Gen 2 saved", d, 1, odd)

	save(t, d, api.Master{Gen: 3, Inc: 0, First: 0, Lsn: 0, Check: 0})
	third := make([]byte, 256)
	third[0], third[1], third[255] = 2, 3, 2
	wantContent(t, "Gen 3 saved", d, 0, even)
	wantContent(t, "Gen 3 saved", d, 1, third)
	wantContent(t, "three saved", d, 2, make([]byte, 256))
}

// P6.1: Save writes the record's sector with the next stamp, and no other one, whatever both had, and synchronizes.
func TestSave(t *testing.T) {
	for _, gen := range gens {
		for _, ends := range [][3]byte{{0, 0, 1}, {1, 1, 2}, {2, 2, 1}, {3, 3, 1}, {1, 2, 3}, {2, 1, 3}, {1, 3, 2}, {9, 1, 2}, {255, 255, 1}} {
			old := noise(256, gen)
			old[0], old[1], old[255] = ends[0], 0, ends[1] // no record, whether or not it is intact
			d := holding(t, old, old)
			m, syncs := recordOf(gen), d.Syncs()
			save(t, d, m)
			if d.Pending() != 0 || d.Syncs() != syncs+1 {
				t.Fatalf("Save leaves %d writes pending and %d synchronizations; want 0, %d", d.Pending(), d.Syncs(), syncs+1)
			}
			wantContent(t, "the record's sector", d, gen%2, stamped(ends[2], encoded(m)))
			wantContent(t, "the other sector", d, 1-gen%2, old)
			wantContent(t, "a sector beside them", d, 2, make([]byte, 256))
			wantLoaded(t, "one saved", d, m)
			wantLoaded(t, "one saved, behind a crash", d.Crash(api.Crash{}), m)
		}
	}
}

// withNumber is a record with one of its numbers replaced.
func withNumber(m api.Master, which, n int) api.Master {
	switch which {
	case 0:
		m.Gen = n
	case 1:
		m.Inc = n
	case 2:
		m.First = n
	case 3:
		m.Lsn = n
	default:
		m.Check = n
	}
	return m
}

// P6.1: each number by itself, at and beyond both ends of what it may be; Gen alone may not be 0.
func TestEachNumber(t *testing.T) {
	for _, base := range []api.Master{recordOf(1), recordOf(2), {Gen: 7}, {Gen: 8, Inc: most, First: most, Lsn: most, Check: most}} {
		for which := range 5 {
			for _, n := range slices.Concat(gens, fields, notNumbers) {
				m := withNumber(base, which, n)
				d := made(t, 2)
				if isValid(m) {
					save(t, d, m)
					wantLoaded(t, "one saved", d, m)
					wantContent(t, "one saved", d, m.Gen%2, stamped(1, encoded(m)))
					continue
				}
				wantNotSaved(t, "no valid record", d, m, api.ErrArg)
				wantNotLoaded(t, "nothing saved", d, api.ErrLost)
			}
		}
	}
	for _, gen := range []int{0, -1, -2, most + 1, most + 2, math.MinInt, math.MaxInt} {
		wantNotSaved(t, "a Gen that may not be", made(t, 2), api.Master{Gen: gen}, api.ErrArg)
	}
}

// P6.1: several numbers that may not be, in one record.
func TestSeveralNumbers(t *testing.T) {
	for _, one := range notNumbers {
		for _, two := range notNumbers {
			for which := range 5 {
				m := withNumber(withNumber(recordOf(6), which, one), (which+2)%5, two)
				wantNotSaved(t, "no valid record", made(t, 2), m, api.ErrArg)
			}
		}
	}
}

// P6.1: a record that is not valid is refused ahead of all else, and nothing becomes of the disk.
func TestInvalidFirst(t *testing.T) {
	for which := range 5 {
		for _, n := range notNumbers {
			m := withNumber(recordOf(3), which, n)
			wantNotSaved(t, "a nil disk", nil, m, api.ErrArg)
			wantNotSaved(t, "a disk that is down", fallen(t, 2), m, api.ErrArg)
			wantNotSaved(t, "a disk of one sector", made(t, 1), m, api.ErrArg)
			d := holding(t, stamped(3, encoded(recordOf(8))), make([]byte, 256))
			d.Fuse(0)
			wantNotSaved(t, "a disk with a fuse of 0", d, m, api.ErrArg)
			if d.Down() {
				t.Fatalf("Save of %v with a fuse of 0 takes the disk down", m)
			}
			wantLoaded(t, "nothing saved over it", d, recordOf(8))
		}
	}
	wantNotSaved(t, "the zero record", nil, api.Master{}, api.ErrArg)
}

// P6.1: disks that are nil, down, or have one sector only.
func TestDisksThatFail(t *testing.T) {
	for _, gen := range gens {
		m := recordOf(gen)
		wantNotSaved(t, "a nil disk", nil, m, api.ErrNil)
		wantNotSaved(t, "a disk that is down", fallen(t, 2), m, api.ErrDown)
		single := made(t, 1)
		if gen%2 == 0 {
			save(t, single, m)
			wantContent(t, "the only sector", single, 0, stamped(1, encoded(m)))
			wantNotSaved(t, "a disk of one sector that is down", fallen(t, 1), m, api.ErrDown)
		} else {
			wantNotSaved(t, "a disk of one sector", single, m, api.ErrArg)
			wantNotSaved(t, "a disk of one sector that is down", fallen(t, 1), m, api.ErrArg)
		}
		wantNotLoaded(t, "a disk of one sector", single, api.ErrArg)
	}
	wantNotLoaded(t, "a nil disk", nil, api.ErrNil)
	wantNotLoaded(t, "a disk that is down", fallen(t, 2), api.ErrDown)
	wantNotLoaded(t, "a disk of one sector that is down", fallen(t, 1), api.ErrDown)
}

// P6.1: disks of as many sectors as may be, and as few as are enough.
func TestSizesOfDisks(t *testing.T) {
	for _, sectors := range []int{2, 3, 4095, 4096} {
		d := made(t, sectors)
		wantNotLoaded(t, "a new disk", d, api.ErrLost)
		for gen := 1; gen < 6; gen++ {
			save(t, d, recordOf(gen))
			wantLoaded(t, "one saved", d, recordOf(gen))
		}
		for n := 2; n < sectors; n++ {
			wantContent(t, "a sector beside", d, n, make([]byte, 256))
		}
	}
}

// P6.1: Load of records in both sectors, in one, in none, and of those that count for nothing.
func TestLoad(t *testing.T) {
	zeros := make([]byte, 256)
	at := func(gen int) []byte { return stamped(2, encoded(recordOf(gen))) }
	for _, c := range []struct {
		zero, one []byte
		want      int // the record's Gen; 0: there is none
	}{
		{zeros, zeros, 0},
		{at(2), zeros, 2},
		{zeros, at(1), 1},
		{at(2), at(1), 2},
		{at(2), at(3), 3},
		{at(100), at(3), 100},
		{at(100), at(most - 1), most - 1},
		{at(most), at(most - 1), most},
		{at(most), at(1), most},
		{at(1), zeros, 0},
		{zeros, at(2), 0},
		{at(1), at(2), 0},
		{at(most - 1), at(most), 0},
		{at(5), at(3), 3},
		{at(4), at(6), 4},
		{at(3), at(3), 3},
		{at(4), at(4), 4},
		{at(most), at(most), most},
	} {
		var want api.Master
		if c.want > 0 {
			want = recordOf(c.want)
		}
		d := holding(t, c.zero, c.one)
		wantLoad(t, "two sectors", d, want)
		wantContent(t, "Load behind it", d, 0, c.zero)
		wantContent(t, "Load behind it", d, 1, c.one)
		if d.Pending() != 0 || d.Syncs() != 1 {
			t.Errorf("Load leaves %d writes pending and %d synchronizations", d.Pending(), d.Syncs())
		}
	}
}

// sample is a sector, and the Gen of the record that it contains: 0 if there is none.
type sample struct {
	content []byte
	gen     int
}

// behind is an intact sector of these bytes, with others behind them.
func behind(mark byte, numbers []byte, seed int) []byte {
	return stamped(mark, slices.Concat(numbers, noise(api.Payload-len(numbers), seed)))
}

// samples are contents of a sector: with records, with something like them, and with nothing of the kind.
func samples(n int) []sample {
	var l []sample
	for _, gen := range gens {
		l = append(l, marked(n, gen)...)
	}
	for _, numbers := range notRecords(4 + uint64(n)) {
		for seed := range 3 {
			mark := byte(1 + seed)
			l = append(l, sample{stamped(mark, numbers), 0}, sample{behind(mark, numbers, seed), 0})
		}
	}
	for _, c := range []byte{0, 1, 2, 3, 127, 128, 129, 255} {
		content := bytes.Repeat([]byte{c}, 256)
		gen := 0
		if 0 < c && c < 128 && int(c)%2 == n {
			gen = int(c)
		}
		l = append(l, sample{stamped(3, content[1:255]), gen})
		if c > 3 {
			gen = 0
		}
		l = append(l, sample{content, gen})
	}
	return l
}

// marked are sectors with the numbers of a record, between stamps, and between bytes that are none.
func marked(n, gen int) []sample {
	var l []sample
	numbers := encoded(recordOf(gen))
	for mark := range 6 {
		has := gen
		if gen%2 != n || mark < 1 || mark > 3 {
			has = 0
		}
		l = append(l, sample{stamped(byte(mark), numbers), has}, sample{behind(byte(mark), numbers, gen), has})
	}
	torn := stamped(1, numbers)
	torn[255] = 2
	return append(l, sample{torn, 0})
}

// notRecords are beginnings of payloads that aren't five numbers, or whose numbers form no valid record; own is a Gen that the sector may have.
func notRecords(own uint64) [][]byte {
	l := [][]byte{
		listOf(0, 1, 1, 1, 1),
		listOf(0, 0, 0, 0, 0),
		bytes.Repeat([]byte{255}, 254),
		bytes.Repeat([]byte{129}, 254),
	}
	odd := own % 2
	for which := range 5 {
		for _, n := range []uint64{most + 1, most + 2, 1<<41 + odd, 1<<63 - 2 + odd, 1<<63 + odd, math.MaxUint64 - 1 + odd} {
			numbers := []uint64{own, 1, 2, 3, 4}
			numbers[which] = n
			l = append(l, listOf(numbers...))
		}
		head := listOf(own, 1, 2, 3, 4)[:which]
		tail := listOf(own, 1, 2, 3, 4)[which:]
		for _, wrong := range [][]byte{
			{128},            // a leading zero digit
			{128, byte(own)}, // and a Gen that there may be
			{0x82, 128, 128, 128, 128, 128, 128, 128, 128, byte(odd)}, // 2^64 and more
			bytes.Repeat([]byte{0x81}, 11),
			bytes.Repeat([]byte{0xFF}, 200),
		} {
			l = append(l, slices.Concat(head, wrong, tail))
		}
	}
	return l
}

// P6.1: sectors that are intact or not, with payloads that are five numbers or not, in both sectors; the greater Gen counts.
func TestLoadOfSamples(t *testing.T) {
	zeros, ones := samples(0), samples(1)
	for _, zero := range zeros {
		for i, one := range ones {
			// Of the many pairs without a record, some are enough.
			if zero.gen == 0 && one.gen == 0 && i%5 != 0 {
				continue
			}
			d := holding(t, zero.content, one.content)
			m, e := master.Load(d)
			gen := max(zero.gen, one.gen)
			if m.Gen != gen || (e == api.OK) != (gen > 0) || gen == 0 && e != api.ErrLost {
				t.Fatalf("Load of %v and %v is %v, %d; want Gen %d", zero.content, one.content, m, e, gen)
			}
			// Up to 127, there are samples whose other numbers are others.
			if gen > 127 && m != recordOf(gen) {
				t.Fatalf("Load of %v and %v is %v; want %v", zero.content, one.content, m, recordOf(gen))
			}
		}
	}
}

// P6.1: the bytes behind the numbers are ignored, whatever they are, and up to the end of the payload.
func TestBytesBehindNumbers(t *testing.T) {
	for _, gen := range gens {
		m := recordOf(gen)
		for seed := range 20 {
			contents := [2][]byte{make([]byte, 256), make([]byte, 256)}
			contents[gen%2] = behind(byte(1+seed%3), encoded(m), seed)
			wantLoaded(t, "noise behind the numbers", holding(t, contents[0], contents[1]), m)
		}
		for c := range 256 {
			contents := [2][]byte{make([]byte, 256), make([]byte, 256)}
			tail := bytes.Repeat([]byte{byte(c)}, api.Payload-len(encoded(m)))
			contents[gen%2] = stamped(2, slices.Concat(encoded(m), tail))
			wantLoaded(t, "equal bytes behind the numbers", holding(t, contents[0], contents[1]), m)
		}
	}
}

// P6.1: a sector with each first and last byte; only an intact one contains a record.
func TestLoadOfAllEnds(t *testing.T) {
	older, newer := recordOf(6), recordOf(7)
	d := holding(t, stamped(1, encoded(older)), stamped(1, encoded(newer)))
	for first := range 256 {
		for last := range 256 {
			content := stamped(1, encoded(newer))
			content[0], content[255] = byte(first), byte(last)
			write(t, d, 1, content)
			want := older
			if first == last && 1 <= first && first <= 3 {
				want = newer
			}
			wantLoaded(t, "a sector with other ends", d, want)
			sync(t, d)
		}
	}
}

// P6.1: Load and Save go by the contents of the sectors, pending writes included.
func TestPendingWrites(t *testing.T) {
	d := holding(t, stamped(1, encoded(recordOf(2))), make([]byte, 256))
	write(t, d, 0, stamped(2, encoded(recordOf(8))))
	write(t, d, 1, stamped(3, encoded(recordOf(5))))
	wantLoaded(t, "pending records", d, recordOf(8))
	write(t, d, 0, make([]byte, 256))
	wantLoaded(t, "a record that is written over", d, recordOf(5))
	wantLoaded(t, "a crash", d.Crash(api.Crash{}), recordOf(2))

	write(t, d, 1, stamped(1, nil))
	save(t, d, recordOf(9))
	wantContent(t, "saved over a pending write", d, 1, stamped(2, encoded(recordOf(9))))
	after := d.Crash(api.Crash{})
	wantContent(t, "what was pending ahead of Save", after, 0, make([]byte, 256))
	wantLoaded(t, "a crash behind Save", after, recordOf(9))
}

// P6.1: Save synchronizes all that was pending on the disk.
func TestSaveSynchronizesAll(t *testing.T) {
	d := made(t, 4)
	write(t, d, 2, noise(256, 1))
	write(t, d, 3, noise(256, 2))
	save(t, d, recordOf(1))
	after := d.Crash(api.Crash{})
	wantContent(t, "pending ahead of Save", after, 2, noise(256, 1))
	wantContent(t, "pending ahead of Save", after, 3, noise(256, 2))
	if d.Pending() != 0 || d.Syncs() != 1 {
		t.Errorf("Save leaves %d writes pending and %d synchronizations; want 0, 1", d.Pending(), d.Syncs())
	}
}

// P6.1: a record that is there already is written again, with another stamp.
func TestSaveAgain(t *testing.T) {
	d, m := made(t, 2), recordOf(11)
	for i := range 10 {
		save(t, d, m)
		wantContent(t, "a record saved again", d, 1, stamped([]byte{1, 2}[i%2], encoded(m)))
		wantLoaded(t, "a record saved again", d, m)
	}
	if d.Syncs() != 10 {
		t.Errorf("ten saves synchronize %d times", d.Syncs())
	}
}

// P6.1: Save writes into the record's sector also if one with a greater Gen is there.
func TestSaveOverGreaterGen(t *testing.T) {
	for _, gen := range []int{4, 5, most - 1, most} {
		d := made(t, 2)
		save(t, d, recordOf(gen))
		save(t, d, recordOf(gen-2))
		wantContent(t, "a smaller Gen saved", d, gen%2, stamped(2, encoded(recordOf(gen-2))))
		wantLoaded(t, "a smaller Gen saved", d, recordOf(gen-2))
	}
}

// P6.2: a record is loaded as long as none with a greater Gen is saved: steps of 1 and others, of either parity.
func TestSavedIsLoaded(t *testing.T) {
	for _, step := range []int{1, 2, 3, 4, 1000, 1001, 1 << 30, 1<<30 + 1} {
		for start := 1; start < 5; start++ {
			d := made(t, 2)
			for i := range 40 {
				m := recordOf(start + i*step)
				save(t, d, m)
				for range 2 {
					wantLoaded(t, "the greatest Gen", d, m)
				}
				wantLoaded(t, "the greatest Gen, behind a crash", d.Crash(api.Crash{}), m)
			}
		}
	}
}

// P6.2: a record with a smaller Gen in the other sector does not count, in whichever order they are saved.
func TestSmallerGen(t *testing.T) {
	for _, one := range gens {
		for _, two := range gens {
			if one%2 == two%2 {
				continue
			}
			d := made(t, 2)
			save(t, d, recordOf(one))
			save(t, d, recordOf(two))
			wantLoaded(t, "two saved", d, recordOf(max(one, two)))
			wantContent(t, "two saved", d, one%2, stamped(1, encoded(recordOf(one))))
			wantContent(t, "two saved", d, two%2, stamped(1, encoded(recordOf(two))))
		}
	}
}

// P6.2: what else becomes of a disk changes nothing of it.
func TestOtherSectors(t *testing.T) {
	d := made(t, 5)
	for gen := 1; gen < 50; gen++ {
		save(t, d, recordOf(gen))
		for n := 2; n < 5; n++ {
			write(t, d, n, stamped(1, encoded(recordOf(gen+n))))
			wantLoaded(t, "records in other sectors", d, recordOf(gen))
		}
		if gen%3 == 0 {
			sync(t, d)
		}
	}
}
