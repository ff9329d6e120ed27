package elf_test

import (
	"fmt"
	"testing"

	"marline/api"
	"marline/elf"
	"marline/page"
)

// someImage is one that may be: its segments stand in order, and it begins where some instructions are.
func someImage(r *row) api.Image {
	perms := []int{1, 2, 4, 5, 6}
	sizes := []int{1, 255, 256, 257, 600, 1 + r.below(3000)}
	var x api.Image
	var at uint64
	n := 1 + r.below(4)
	runs := r.below(n) // which one holds instructions, whatever the others do
	for i := range n {
		at += 256 * uint64([]int{0, 0, 1, 7, 1 << 20, 1 << 29}[r.below(6)])
		size := sizes[r.below(len(sizes))]
		data := []int{0, size, r.below(size + 1)}[r.below(3)]
		g := oneSeg(at, perms[r.below(5)], data, uint64(size))
		if i == runs {
			g.Perm = []int{1, 5}[r.below(2)]
			x.Entry = at + uint64([]int{0, size - 1, r.below(size)}[r.below(3)])
		}
		x.Segs = append(x.Segs, g)
		at += uint64((size + 255) / 256 * 256)
	}
	return x
}

// expectFollows: an image is read as it was written, and no page of its machine is both written and holds instructions.
func expectFollows(t *testing.T, why string, x api.Image) {
	t.Helper()
	if !elf.May(x) {
		t.Errorf("%s: may not be: %s", why, told(x))
		return
	}
	s, e := elf.Write(x)
	if e != api.OK {
		t.Errorf("%s: Write answers %d", why, e)
	}
	expectRead(t, why, s, x, api.OK)
	if y, _ := elf.Read(s); !elf.Same(x, y) {
		t.Errorf("%s: what was written isn't read as it was: %s, not %s", why, told(y), told(x))
	}
	m, e := elf.Load(x, "")
	if e != api.OK {
		if len(pagesOf(x)) <= 64 {
			t.Errorf("%s: Load answers %d", why, e)
		}
		return
	}
	for _, p := range m.M {
		if p.Perm&api.PW != 0 && p.Perm&api.PX != 0 {
			t.Errorf("%s: the page at %d is written, and holds instructions", why, p.At)
		}
	}
	if _, e := page.Load(m.M, m.Pc, 1, api.PX); e != api.OK {
		t.Errorf("%s: where it begins, at %d, there may be no instructions", why, m.Pc)
	}
}

// TestFollows: P4.3, of images of all sorts.
func TestFollows(t *testing.T) {
	for _, x := range goodImages() {
		expectFollows(t, x.why, x.x)
	}
	for start := range 2000 {
		r := row(start)
		x := someImage(&r)
		expectFollows(t, fmt.Sprint("image ", start, ": ", told(x)), x)
	}
}

// TestFollowsRead: P4.3, of files with a byte or some changed: what is read is an image that may be, and is written and read as it is.
func TestFollowsRead(t *testing.T) {
	images := 0
	for start := range 4000 {
		r := row(start)
		s := fileOf(someImage(&r))
		for range 1 + r.below(2) {
			at := 64 + r.below(len(s)-64)
			if r.below(4) > 0 {
				at = 64 + r.below(56)
			}
			s = patched(s, at, string([]byte{byte(r.below(256))}))
		}
		x, e := elf.Read(s)
		switch {
		case e == api.OK:
			images++
			expectFollows(t, fmt.Sprint("changed file ", start), x)
		case !equal(x, api.Image{}) || e != api.ErrForm && e != api.ErrMore:
			t.Errorf("changed file %d: Read answers %s, %d", start, told(x), e)
		}
	}
	if images < 100 || images > 3900 {
		t.Errorf("%d of 4000 changed files are files of images", images)
	}
}
