package pool_test

import (
	"strings"

	"troth/api"
)

// draw is numbers without a pattern, always the same ones.
type draw uint64

// below is a number from 0 to n - 1.
func (d *draw) below(n int) int {
	*d = *d*6364136223846793005 + 1442695040888963407
	return int(uint64(*d) >> 33 % uint64(n))
}

// pick is one of a list.
func pick[T any](d *draw, l []T) T { return l[d.below(len(l))] }

// value is one that may be; some are absent.
func (d *draw) value() api.Value {
	if d.below(4) == 0 {
		return api.Value{}
	}
	return has(strings.Repeat(string(rune('a'+d.below(26))), d.below(33)))
}

// crash is one of any kind, of so many pending writes.
func (d *draw) crash(pending int) api.Crash {
	c := api.Crash{Torn: d.below(2) == 0, Cut: d.below(260) - 2}
	for i := range pending {
		if d.below(2) == 0 {
			c.Keep = append(c.Keep, i)
		}
	}
	return c
}
