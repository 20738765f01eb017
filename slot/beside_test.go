package slot_test

import (
	"testing"

	"troth/api"
)

// P11.3: of two pages side by side, one is saved, with the power failing at each step and each write torn; the other one stays.
func TestSideBySide(t *testing.T) {
	t.Parallel()
	for which := range 2 {
		for turn := 1; turn < 5; turn++ {
			for fuse := range 3 {
				for _, cut := range allCuts() {
					d := made(t, 5)
					for i := 1; i < turn; i++ {
						save(t, d, 1, which, versionAt(i))
					}
					save(t, d, 1, 1-which, versionAt(7))
					save(t, d, 1, 1-which, versionAt(8))
					before := image(t, d)
					if fuse < 2 {
						cutShort(t, d, 1, which, versionAt(turn), fuse)
					} else {
						save(t, d, 1, which, versionAt(turn))
					}
					d = d.Crash(api.Crash{Torn: true, Cut: cut})
					wantLoaded(t, "the other page", d, 1, 1-which, versionAt(8))
					for n, content := range image(t, d) {
						if n != 1+2*which+turn%2 && string(content) != string(before[n]) {
							t.Fatalf("Save of page %d changes sector %d", which, n)
						}
					}
				}
			}
		}
	}
}

// P11.3: pages that fill a disk are saved by turns, each as often as another number; all others are what they were.
func TestFullDisk(t *testing.T) {
	t.Parallel()
	for _, c := range [][2]int{{0, 64}, {1, 20}, {2, 20}, {10, 9}, {3, 3}} {
		base, count := c[0], c[1]
		d := made(t, base+2*count)
		last := make([]int, count)
		for i := range 12 * count {
			n := i * 7 % count
			if i%3 == 0 {
				n = i * i % count
			}
			last[n]++
			save(t, d, base, n, version{last[n], pageAt(100*n + last[n])})
			for other, turn := range last {
				want := version{turn, pageAt(100*other + turn)}
				if turn == 0 {
					want = version{}
				}
				wantLoaded(t, "one of many", d, base, other, want)
			}
		}
		for n := range base {
			wantContent(t, "ahead of the pages", d, n, make([]byte, 256))
		}
	}
}

// P11.2 and P11.3: pages side by side, over many crashes: the one that was being saved has one version or the other, all others their last ones.
func TestManyPages(t *testing.T) {
	t.Parallel()
	var r draw
	const base, count = 3, 4
	d := made(t, base+2*count)
	var last [count]int
	for i := range 8000 {
		n := r.below(count)
		f := fate{r.below(3), api.Crash{Torn: r.below(3) > 0, Cut: r.below(260) - 2}}
		if r.below(2) == 0 {
			f.crash.Keep = []int{0}
		}
		d, last[n] = f.meet(t, d, base, n, last[n])
		for n, turn := range last {
			wantLoaded(t, "one of four", d, base, n, lastOf(turn))
		}
		if t.Failed() {
			t.Fatalf("behind %d saves: %v of page %d", i, f, n)
		}
	}
	if min(last[0], last[1], last[2], last[3]) < 500 {
		t.Errorf("the last turns are %v", last)
	}
}

// P11.3: the same page at two bases that lie two sectors apart or more is two pages; one that begins where another does is the same one.
func TestTwoBases(t *testing.T) {
	for _, c := range [][4]int{{0, 2, 2, 2}, {0, 0, 2, 0}, {0, 1, 4, 1}, {1, 2, 3, 2}, {0, 3, 20, 3}, {2, 0, 0, 0}, {8, 2, 0, 2}} {
		d := made(t, 40)
		for turn := 1; turn < 6; turn++ {
			save(t, d, c[0], c[1], versionAt(turn))
			wantLoaded(t, "at the other base", d, c[2], c[3], lastOf(3*(turn-1)))
			save(t, d, c[2], c[3], versionAt(3*turn))
			wantLoaded(t, "at one base", d, c[0], c[1], versionAt(turn))
			wantLoaded(t, "at the other base", d, c[2], c[3], versionAt(3*turn))
		}
	}
	d := made(t, 40)
	save(t, d, 4, 3, versionAt(5))
	wantLoaded(t, "the same sectors", d, 0, 5, versionAt(5))
	wantLoaded(t, "the same sectors", d, 10, 0, versionAt(5))
	save(t, d, 10, 0, versionAt(6))
	wantLoaded(t, "the same sectors", d, 4, 3, versionAt(6))
}

// P11.1: bases that lie one sector apart share sectors, but no version: what is even for one is odd for the other.
func TestBasesOneApart(t *testing.T) {
	d := made(t, 8)
	save(t, d, 2, 0, versionAt(5)) // sector 3
	wantLoaded(t, "its odd sector is an even one here", d, 3, 0, version{})
	save(t, d, 2, 0, versionAt(6)) // sector 2
	wantLoaded(t, "its even sector is an odd one here", d, 1, 0, version{})
	save(t, d, 3, 0, versionAt(8)) // sector 3
	wantLoaded(t, "its odd sector was written over", d, 2, 0, versionAt(6))
	wantLoaded(t, "one sector on", d, 3, 0, versionAt(8))
}
