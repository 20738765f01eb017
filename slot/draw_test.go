package slot_test

import (
	"slices"

	"troth/api"
)

// draw is numbers without a pattern, always the same ones.
type draw uint64

// below is a number from 0 to n - 1.
func (d *draw) below(n int) int {
	*d = *d*6364136223846793005 + 1442695040888963407
	return int(uint64(*d) >> 33 % uint64(n))
}

// pick is one of a list.
func pick[T any](d *draw, l []T) T { return l[d.below(len(l))] }

// sector is one for a place of this parity: with a version or something like it, or none.
func (d *draw) sector(parity int) []byte {
	turn := 1 + d.below(40)
	if d.below(3) > 0 {
		turn = 2*d.below(40) + parity
	}
	sector := written(byte(1+d.below(3)), version{turn, pick(d, goodPages())})
	switch d.below(8) {
	case 0:
		sector[d.below(256)] = byte(d.below(256))
	case 1:
		sector[d.below(20)] ^= 1 << d.below(8)
	case 2:
		from := d.below(256)
		copy(sector[from:], noise(256-from, d.below(1000)))
		sector[255] = sector[0]
	case 3:
		sector = noise(256, d.below(1000))
		sector[0], sector[255] = 2, 2
	case 4:
		from := 1 + d.below(200)
		sector = slices.Concat(sector[:from], sector[from+1:255], []byte{0, sector[0]})
	}
	return sector
}

// crash is one of any kind, of a few pending writes.
func (d *draw) crash() api.Crash {
	c := api.Crash{Torn: d.below(3) > 0, Cut: d.below(260) - 2}
	for i := range 4 {
		if d.below(2) == 0 {
			c.Keep = append(c.Keep, i)
		}
	}
	return c
}
