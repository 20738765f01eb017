package stamp_test

import (
	"bytes"
	"slices"
	"testing"

	"troth/api"
	"troth/stamp"
)

// lengths are those of payloads that fit: the edges, and some between.
var lengths = []int{0, 1, 2, 100, 252, 253, 254}

// tooLong are lengths of payloads that don't fit.
var tooLong = []int{255, 256, 257, 1000, 1 << 16}

// notSectors are lengths that a sector hasn't.
var notSectors = []int{0, 1, 2, 253, 254, 255, 257, 258, 512, 1 << 16}

// noise is n bytes without a pattern, those of a seed always the same ones.
func noise(n, seed int) []byte {
	b := make([]byte, n)
	state := uint32(seed)*2654435761 + 1
	for i := range b {
		state = state*1664525 + 1013904223
		b[i] = byte(state >> 24)
	}
	return b
}

// sectorOf is a sector with these bytes at its ends, and others between them.
func sectorOf(first, last byte, seed int) []byte {
	b := noise(api.SectorBytes, seed)
	b[0], b[api.SectorBytes-1] = first, last
	return b
}

// padded is a payload followed by as many zero bytes as a sector has room for.
func padded(payload []byte) []byte {
	return slices.Concat(payload, make([]byte, api.Payload-len(payload)))
}

// model is a stamped sector, as the chapter has it.
func model(mark byte, payload []byte) []byte {
	return slices.Concat([]byte{mark}, padded(payload), []byte{mark})
}

// modelNext is the next stamp, as the chapter has it.
func modelNext(first, last byte) byte {
	switch {
	case first != 1 && last != 1:
		return 1
	case first != 2 && last != 2:
		return 2
	default:
		return 3
	}
}

// isIntact tells whether a sector was written completely, as the chapter has it.
func isIntact(sector []byte) bool {
	ends := [2]byte{sector[0], sector[api.SectorBytes-1]}
	return ends == [2]byte{1, 1} || ends == [2]byte{2, 2} || ends == [2]byte{3, 3}
}

// next is the next stamp for a sector.
func next(t *testing.T, old []byte) byte {
	t.Helper()
	mark, e := stamp.Next(old)
	if e != api.OK {
		t.Fatalf("Next of %d bytes fails with %d", len(old), e)
	}
	return mark
}

// wrapped is what Wrap makes of a stamp and a payload that there may be.
func wrapped(t *testing.T, mark byte, payload []byte) []byte {
	t.Helper()
	sector, e := stamp.Wrap(mark, payload)
	if e != api.OK {
		t.Fatalf("Wrap(%d) of %d bytes fails with %d", mark, len(payload), e)
	}
	return sector
}

// opened is what Open makes of a sector that is intact.
func opened(t *testing.T, sector []byte) []byte {
	t.Helper()
	payload, e := stamp.Open(sector)
	if e != api.OK {
		t.Fatalf("Open of %v fails with %d", sector, e)
	}
	return payload
}

// wantShut fails if opening a sector does not fail with an error, and no bytes beside it.
func wantShut(t *testing.T, what string, sector []byte, want api.Errno) {
	t.Helper()
	if payload, e := stamp.Open(sector); e != want || len(payload) != 0 {
		t.Errorf("%s: Open of %d bytes is %v, %d; want nothing, %d", what, len(sector), payload, e, want)
	}
}

// P5.1: the chapter's examples.
func TestExamples(t *testing.T) {
	want := make([]byte, 256)
	want[0], want[255] = 2, 2
	if sector := wrapped(t, 2, nil); !bytes.Equal(sector, want) {
		t.Errorf("Wrap(2) of nothing is %v; want %v", sector, want)
	}
	if mark := next(t, make([]byte, 256)); mark != 1 {
		t.Errorf("Next of zero bytes is %d; want 1", mark)
	}
}

// P5.1: the next stamp, where it can be told at a glance.
func TestNextOfStamps(t *testing.T) {
	for _, c := range []struct{ first, last, want byte }{
		{1, 1, 2}, {1, 2, 3}, {1, 3, 2},
		{2, 1, 3}, {2, 2, 1}, {2, 3, 1},
		{3, 1, 2}, {3, 2, 1}, {3, 3, 1},
		{0, 0, 1}, {0, 1, 2}, {1, 0, 2}, {0, 2, 1}, {2, 0, 1}, {0, 3, 1}, {3, 0, 1},
		{4, 4, 1}, {4, 1, 2}, {1, 4, 2}, {255, 255, 1}, {255, 1, 2}, {1, 255, 2}, {0, 255, 1},
	} {
		if mark := next(t, sectorOf(c.first, c.last, 1)); mark != c.want {
			t.Errorf("Next of %d .. %d is %d; want %d", c.first, c.last, mark, c.want)
		}
	}
}

// P5.1: the next stamp for each first and last byte, whatever is between them.
func TestNextOfAllEnds(t *testing.T) {
	for first := range 256 {
		for last := range 256 {
			want := modelNext(byte(first), byte(last))
			old := sectorOf(byte(first), byte(last), first+last)
			if mark := next(t, old); mark != want {
				t.Fatalf("Next of %d .. %d is %d; want %d", first, last, mark, want)
			}
			if sector := wrapped(t, want, nil); !isIntact(sector) {
				t.Fatalf("the next stamp %d makes no intact sector", want)
			}
		}
	}
	for inner := range 256 {
		for _, ends := range [][2]byte{{1, 1}, {1, 2}, {0, 3}, {2, 2}} {
			old := bytes.Repeat([]byte{byte(inner)}, api.SectorBytes)
			old[0], old[255] = ends[0], ends[1]
			if mark, want := next(t, old), modelNext(ends[0], ends[1]); mark != want {
				t.Errorf("Next of %d, %ds, %d is %d; want %d", ends[0], inner, ends[1], mark, want)
			}
		}
	}
}

// P5.1: Next of what is no sector.
func TestNextErrors(t *testing.T) {
	for _, n := range notSectors {
		for _, b := range [][]byte{make([]byte, n), bytes.Repeat([]byte{1}, n), noise(n, n)} {
			if mark, e := stamp.Next(b); e != api.ErrLong || mark != 0 {
				t.Errorf("Next of %d bytes is %d, %d; want 0, ErrLong", n, mark, e)
			}
		}
	}
}

// P5.1: Wrap, with each stamp and payloads of each length that fits.
func TestWrap(t *testing.T) {
	for mark := byte(1); mark <= 3; mark++ {
		for n := range api.Payload + 1 {
			for _, payload := range [][]byte{make([]byte, n), bytes.Repeat([]byte{255}, n), bytes.Repeat([]byte{mark}, n), noise(n, n)} {
				if sector := wrapped(t, mark, payload); !bytes.Equal(sector, model(mark, payload)) {
					t.Fatalf("Wrap(%d) of %v is %v", mark, payload, sector)
				}
			}
		}
	}
}

// P5.1: the errors of Wrap, and their order: of the stamp, of the length.
func TestWrapErrors(t *testing.T) {
	for mark := range 256 {
		for _, n := range append(tooLong, lengths...) {
			want := api.OK
			if mark < 1 || mark > 3 {
				want = api.ErrArg
			} else if n > api.Payload {
				want = api.ErrLong
			}
			sector, e := stamp.Wrap(byte(mark), noise(n, n))
			if e != want || want != api.OK && len(sector) != 0 {
				t.Errorf("Wrap(%d) of %d bytes is %d bytes, %d; want %d", mark, n, len(sector), e, want)
			}
		}
	}
}

// P5.1: Open of sectors with each first and last byte.
func TestOpen(t *testing.T) {
	intact := 0
	for first := range 256 {
		for last := range 256 {
			sector := sectorOf(byte(first), byte(last), first*7+last)
			if first != last || first < 1 || first > 3 {
				wantShut(t, "a sector that is not intact", sector, api.ErrTorn)
				continue
			}
			intact++
			if payload := opened(t, sector); !bytes.Equal(payload, sector[1:255]) {
				t.Errorf("Open of %v is %v", sector, payload)
			}
		}
	}
	if intact != 3 {
		t.Errorf("%d sectors are intact; want 3", intact)
	}
}

// P5.1: the errors of Open, and their order: of the length, of the ends.
func TestOpenErrors(t *testing.T) {
	for _, n := range notSectors {
		for c := range 256 {
			wantShut(t, "no sector, with equal ends", bytes.Repeat([]byte{byte(c)}, n), api.ErrLong)
		}
		wantShut(t, "no sector, with other ends", noise(n, n), api.ErrLong)
	}
	sector := wrapped(t, 1, noise(254, 1))
	wantShut(t, "a sector without its end", sector[:255], api.ErrLong)
	wantShut(t, "a sector without its beginning", sector[1:], api.ErrLong)
	wantShut(t, "a sector and more", append(sector, 1), api.ErrLong)
}

// P5.2: a payload is opened as it was wrapped, followed by zero bytes.
func TestWrapAndOpen(t *testing.T) {
	for mark := byte(1); mark <= 3; mark++ {
		for n := range api.Payload + 1 {
			for _, payload := range [][]byte{make([]byte, n), bytes.Repeat([]byte{255}, n), noise(n, n+1)} {
				if got := opened(t, wrapped(t, mark, payload)); !bytes.Equal(got, padded(payload)) {
					t.Fatalf("%v with the stamp %d is opened as %v", payload, mark, got)
				}
			}
		}
	}
}

// P5.2: what was opened is wrapped to the sector that it was in.
func TestOpenAndWrap(t *testing.T) {
	for mark := byte(1); mark <= 3; mark++ {
		for seed := range 50 {
			sector := sectorOf(mark, mark, seed)
			if again := wrapped(t, mark, opened(t, sector)); !bytes.Equal(again, sector) {
				t.Fatalf("%v is opened and wrapped to %v", sector, again)
			}
		}
		for _, inner := range []byte{0, mark, 255} {
			sector := bytes.Repeat([]byte{inner}, api.SectorBytes)
			sector[0], sector[255] = mark, mark
			if again := wrapped(t, mark, opened(t, sector)); !bytes.Equal(again, sector) {
				t.Errorf("%v is opened and wrapped to %v", sector, again)
			}
		}
	}
}

// wantTorn fails if a write of a payload with the next stamp over a sector, torn behind so many bytes, leaves anything but what P5.3 has.
func wantTorn(t *testing.T, old, payload []byte, cut int) {
	t.Helper()
	written := wrapped(t, next(t, old), payload)
	left := slices.Concat(written[:cut], old[cut:])
	switch {
	case cut == 0 && isIntact(old):
		if got := opened(t, left); !bytes.Equal(got, old[1:255]) {
			t.Fatalf("without a byte of the write, %v is opened as %v", old, got)
		}
	case cut == api.SectorBytes:
		if got := opened(t, left); !bytes.Equal(got, padded(payload)) {
			t.Fatalf("the write of %v over %d .. %d is opened as %v", payload, old[0], old[255], got)
		}
	default:
		wantShut(t, "a torn sector", left, api.ErrTorn)
	}
}

// P5.3: over each first and last byte, torn around both ends and in between.
func TestTornOverAllEnds(t *testing.T) {
	payload := noise(254, 5)
	for first := range 256 {
		for last := range 256 {
			old := sectorOf(byte(first), byte(last), first-last)
			for _, cut := range []int{0, 1, 2, 128, 254, 255, 256} {
				wantTorn(t, old, payload, cut)
			}
		}
	}
}

// P5.3: torn at each byte, over all kinds of ends, with payloads of all kinds.
func TestTornAtEachByte(t *testing.T) {
	ends := []byte{0, 1, 2, 3, 4, 255}
	for _, first := range ends {
		for _, last := range ends {
			for _, inner := range [][]byte{make([]byte, 254), bytes.Repeat([]byte{1}, 254), noise(254, 9)} {
				old := slices.Concat([]byte{first}, inner, []byte{last})
				for _, n := range lengths {
					for cut := range api.SectorBytes + 1 {
						wantTorn(t, old, noise(n, n), cut)
					}
				}
				for cut := range api.SectorBytes + 1 {
					wantTorn(t, old, inner, cut)
				}
			}
		}
	}
}

// P5.3: over what torn writes left, again and again.
func TestTornOverTorn(t *testing.T) {
	for _, start := range [][]byte{make([]byte, 256), sectorOf(1, 1, 1), sectorOf(2, 3, 2)} {
		for step := range 256 {
			old := start
			for i := range 50 {
				payload, cut := noise(254, i), (i+1)*(step+1)%(api.SectorBytes+1)
				wantTorn(t, old, payload, cut)
				old = slices.Concat(wrapped(t, next(t, old), payload)[:cut], old[cut:])
			}
		}
	}
}

// P0.3: arguments aren't changed, nor read or written beyond their length.
func TestArguments(t *testing.T) {
	whole := slices.Concat(sectorOf(1, 1, 3), noise(100, 4))
	kept := bytes.Clone(whole)
	for _, n := range []int{0, 1, 253, 254, 255, 256, 257, 300} {
		part := whole[:n]
		stamp.Next(part)
		stamp.Open(part)
		for mark := range 5 {
			stamp.Wrap(byte(mark), part)
		}
		if !bytes.Equal(whole, kept) {
			t.Fatalf("a call with the first %d bytes changed them to %v", n, whole)
		}
	}
	if sector := wrapped(t, 1, whole[:5]); !bytes.Equal(sector, model(1, kept[:5])) {
		t.Errorf("Wrap of the first 5 bytes is %v", sector)
	}
}

// spoil changes all bytes of a slice, and those that there is room for beyond them.
func spoil(b []byte) {
	whole := b[:cap(b)]
	for i := range whole {
		whole[i] ^= 99
	}
}

// P0.3: results share nothing with arguments, nor with each other.
func TestResultsAreNewMemory(t *testing.T) {
	for _, n := range lengths {
		payload := noise(n, 6)
		first, second := wrapped(t, 3, payload), wrapped(t, 3, payload)
		one, two := opened(t, second), opened(t, second)
		spoil(first)
		spoil(one)
		if !bytes.Equal(payload, noise(n, 6)) || !bytes.Equal(second, model(3, payload)) || !bytes.Equal(two, padded(payload)) {
			t.Errorf("%d bytes: a result shares memory", n)
		}
		spoil(payload)
		if !bytes.Equal(second, model(3, noise(n, 6))) {
			t.Errorf("%d bytes: Wrap's result shares memory with the payload", n)
		}
		spoil(second)
		if !bytes.Equal(two, padded(noise(n, 6))) {
			t.Errorf("%d bytes: Open's result shares memory with the sector", n)
		}
	}
}

// P0.4: nil is as good as empty.
func TestNil(t *testing.T) {
	for mark := range 5 {
		one, e := stamp.Wrap(byte(mark), nil)
		two, f := stamp.Wrap(byte(mark), []byte{})
		if !bytes.Equal(one, two) || e != f {
			t.Errorf("Wrap(%d) of nil is %v, %d, but of no bytes %v, %d", mark, one, e, two, f)
		}
	}
	wantShut(t, "nil", nil, api.ErrLong)
	wantShut(t, "no bytes", []byte{}, api.ErrLong)
}

// P0.1 and P0.5: whatever is passed, nothing panics, and a second call answers the same.
func TestAnyArguments(t *testing.T) {
	for n := range 520 {
		for mark := range 256 {
			b := noise(n, mark)
			if n > 0 {
				b[0], b[n-1] = byte(mark), byte(mark)
			}
			one, e := stamp.Wrap(byte(mark), b)
			two, f := stamp.Wrap(byte(mark), b)
			three, g := stamp.Open(b)
			four, h := stamp.Open(b)
			five, i := stamp.Next(b)
			six, j := stamp.Next(b)
			if !bytes.Equal(one, two) || e != f || !bytes.Equal(three, four) || g != h || five != six || i != j {
				t.Fatalf("calls with %d and %d bytes differ", mark, n)
			}
		}
	}
}
