package elf_test

import (
	"fmt"
	"math"
	"testing"

	"marline/api"
	"marline/elf"
)

// TestMay: P4.1, images that may be.
func TestMay(t *testing.T) {
	for _, x := range goodImages() {
		if !elf.May(x.x) {
			t.Errorf("%s: may not be: %s", x.why, told(x.x))
		}
	}
}

// TestMayNot: P4.1, images that may not be, each for one reason.
func TestMayNot(t *testing.T) {
	for _, x := range badImages() {
		if elf.May(x.x) {
			t.Errorf("%s: may be: %s", x.why, told(x.x))
		}
	}
}

// TestMayCount: P4.1, one to MaxSegs segments.
func TestMayCount(t *testing.T) {
	var x api.Image
	for n := range 9 {
		if got := elf.May(x); got != (1 <= n && n <= 4) {
			t.Errorf("%d segments: may is %t", n, got)
		}
		x.Segs = append(x.Segs, oneSeg(uint64(n)*512, api.PX, 1, 512))
	}
}

// TestMayAt: P4.1, At is a multiple of 256, and below 2^40.
func TestMayAt(t *testing.T) {
	for at := range uint64(1025) {
		if got := elf.May(oneImage(at, 1, 2)); got != (at%256 == 0) {
			t.Errorf("At %d: may is %t", at, got)
		}
		if got := elf.May(oneImage(lastAt+at, 1, 2)); got != (at == 0) {
			t.Errorf("At %d: may is %t", lastAt+at, got)
		}
		if top := math.MaxUint64 - at; elf.May(oneImage(top, 1, 2)) {
			t.Errorf("At %d: may be", top)
		}
	}
}

// TestMayPerm: P4.1, Perm is 1 to 7, but for those with both PW and PX.
func TestMayPerm(t *testing.T) {
	may := map[int]int{1: 1, 2: 1, 4: 1, 5: 1, 6: 1}
	for perm := -20; perm < 40; perm++ {
		x := twoSegs()
		x.Segs[1].Perm = perm
		if got := elf.May(x); got != (may[perm] == 1) {
			t.Errorf("Perm %d: may is %t", perm, got)
		}
	}
}

// TestMaySize: P4.1, Size is 1 to MaxSeg.
func TestMaySize(t *testing.T) {
	for size := range uint64(17000) {
		x := twoSegs()
		x.Segs[1].Size, x.Segs[1].Data = size, ""
		if got := elf.May(x); got != (1 <= size && size <= 16384) {
			t.Errorf("Size %d: may is %t", size, got)
		}
	}
}

// TestMayData: P4.1, Data has at most as many bytes as Size.
func TestMayData(t *testing.T) {
	for _, size := range []uint64{1, 2, 255, 256, 257, 300, 511, 512, 513} {
		for n := range 600 {
			if got := elf.May(oneImage(256, n, size)); got != (uint64(n) <= size) {
				t.Errorf("Data of %d, Size %d: may is %t", n, size, got)
			}
		}
	}
}

// TestMayBehind: P4.1, each segment begins at or behind the end of the pages of the one ahead.
func TestMayBehind(t *testing.T) {
	for _, size := range []uint64{1, 255, 256, 257, 511, 512, 513, 767, 768, 769} {
		pages := (size + 255) / 256
		for k := range uint64(9) {
			x := api.Image{Entry: 512, Segs: []api.Seg{oneSeg(512, readRuns, 1, size), oneSeg(256*k, readWrite, 1, 1)}}
			want := k >= 2+pages
			if got := elf.May(x); got != want {
				t.Errorf("%d behind Size %d: may is %t", 256*k, size, got)
			}
			// The same of the last two of four.
			x.Segs = append([]api.Seg{oneSeg(0, 4, 1, 1), oneSeg(256, 2, 1, 1)}, x.Segs...)
			if got := elf.May(x); got != want {
				t.Errorf("%d behind Size %d, the last of four: may is %t", 256*k, size, got)
			}
		}
	}
}

// TestMayEntry: P4.1, Entry is a place of a segment with PX: not of another one, not of what is left of its last page.
func TestMayEntry(t *testing.T) {
	x := api.Image{Segs: []api.Seg{oneSeg(256, 4, 10, 256), oneSeg(512, 5, 3, 300), oneSeg(1024, 6, 9, 100), oneSeg(1280, 1, 0, 1)}}
	for x.Entry = range uint64(2000) {
		want := 512 <= x.Entry && x.Entry < 812 || x.Entry == 1280
		if got := elf.May(x); got != want {
			t.Errorf("Entry %d: may is %t", x.Entry, got)
		}
	}
	for _, entry := range []uint64{1<<32 + 512, 1<<40 + 512, 1<<63 + 512, math.MaxUint64} {
		x.Entry = entry
		if elf.May(x) {
			t.Errorf("Entry %d: may be", entry)
		}
	}
}

// TestSame: P4.1, the same, field by field, whether they may be or not.
func TestSame(t *testing.T) {
	same := func(why string, a, b api.Image, want bool) {
		t.Helper()
		if elf.Same(a, b) != want || elf.Same(b, a) != want {
			t.Errorf("%s: same is not %t", why, want)
		}
	}
	for _, x := range append(goodImages(), badImages()...) {
		same(x.why, x.x, copied(x.x), true)
		other := x.x
		other.Entry++
		same(x.why+", another Entry", x.x, other, false)
		other = copied(x.x)
		other.Segs = append(other.Segs, api.Seg{})
		same(x.why+", one more", x.x, other, false)
		for i := range x.x.Segs {
			for why, change := range map[string]func(*api.Seg){
				"At":        func(g *api.Seg) { g.At += 256 },
				"Perm":      func(g *api.Seg) { g.Perm ^= 4 },
				"Data":      func(g *api.Seg) { g.Data = "\x00" + g.Data },
				"more Data": func(g *api.Seg) { g.Data += "\x00" },
				"Size":      func(g *api.Seg) { g.Size++ },
			} {
				same(fmt.Sprint(x.why, ", another ", why, " of ", i), x.x, withSeg(x.x, i, change), false)
			}
		}
	}
	x := fourSegs()
	same("no segments, nil or not", api.Image{Entry: 1}, api.Image{Entry: 1, Segs: []api.Seg{}}, true)
	same("its beginning", x, api.Image{Entry: x.Entry, Segs: x.Segs[:3]}, false)
	same("its end", x, api.Image{Entry: x.Entry, Segs: x.Segs[1:]}, false)
	same("another order", x, api.Image{Entry: x.Entry, Segs: []api.Seg{x.Segs[0], x.Segs[2], x.Segs[1], x.Segs[3]}}, false)
	same("one byte of Data", x, withSeg(x, 3, func(g *api.Seg) { g.Data = g.Data[:255] + "\x00" }), false)
}
