package elf_test

import (
	goelf "debug/elf"
	"io"
	"slices"
	"strings"
	"testing"

	"marline/api"
	"marline/elf"
)

// TestWriteExample: P4.1, the document's image, byte by byte.
func TestWriteExample(t *testing.T) {
	s, e := elf.Write(api.Image{Entry: 65536, Segs: []api.Seg{{At: 65536, Perm: api.PX, Data: "\x73\x00\x00\x00", Size: 4}}})
	want := "\x7f\x45\x4c\x46\x02\x01\x01\x00\x00\x00\x00\x00\x00\x00\x00\x00" +
		"\x02\x00" + "\xf3\x00" + "\x01\x00\x00\x00" +
		"\x00\x00\x01\x00\x00\x00\x00\x00" + "\x40\x00\x00\x00\x00\x00\x00\x00" + "\x00\x00\x00\x00\x00\x00\x00\x00" +
		"\x00\x00\x00\x00" + "\x40\x00" + "\x38\x00" + "\x01\x00" + "\x00\x00" + "\x00\x00" + "\x00\x00" +
		"\x01\x00\x00\x00" + "\x01\x00\x00\x00" + "\x00\x01\x00\x00\x00\x00\x00\x00" +
		"\x00\x00\x01\x00\x00\x00\x00\x00" + "\x00\x00\x01\x00\x00\x00\x00\x00" +
		"\x04\x00\x00\x00\x00\x00\x00\x00" + "\x04\x00\x00\x00\x00\x00\x00\x00" + "\x00\x01\x00\x00\x00\x00\x00\x00" +
		strings.Repeat("\x00", 136) + "\x73\x00\x00\x00"
	if s != want || len(s) != 260 || e != api.OK {
		t.Errorf("Write = %q, %d, not %q", s, e, want)
	}
}

// TestWrite: P4.1, the files of images that may be.
func TestWrite(t *testing.T) {
	for _, x := range goodImages() {
		whole := append(slices.Clone(x.x.Segs), api.Seg{At: 3})
		before := slices.Clone(whole)
		x.x.Segs = whole[:len(whole)-1]
		s, e := elf.Write(x.x)
		if want := fileOf(x.x); s != want || e != api.OK {
			t.Errorf("%s: Write = %q, %d, not %q", x.why, s, e, want)
		}
		if !slices.Equal(whole, before) {
			t.Errorf("%s: Write wrote into what it was handed", x.why)
		}
	}
}

// TestWriteRefuses: P4.1, images that may not be have no file.
func TestWriteRefuses(t *testing.T) {
	for _, x := range badImages() {
		if s, e := elf.Write(x.x); s != "" || e != api.ErrArg {
			t.Errorf("%s: Write answers %d bytes, %d, not nothing and ErrArg", x.why, len(s), e)
		}
	}
}

// TestWriteNoughts: P4.1, Data stands at multiples of 256, with noughts ahead, also if there is none; nothing stands behind the last one's.
func TestWriteNoughts(t *testing.T) {
	image := func(lens ...int) api.Image {
		x := api.Image{Entry: 0}
		for i, n := range lens {
			x.Segs = append(x.Segs, oneSeg(uint64(i)*1024, api.PX, n, 1024))
		}
		return x
	}
	for _, c := range []struct {
		lens  []int
		ats   []int
		whole int
	}{
		{[]int{0}, []int{256}, 256},
		{[]int{1}, []int{256}, 257},
		{[]int{256}, []int{256}, 512},
		{[]int{0, 0}, []int{256, 256}, 256},
		{[]int{1, 0}, []int{256, 512}, 512},
		{[]int{255, 0}, []int{256, 512}, 512},
		{[]int{256, 0}, []int{256, 512}, 512},
		{[]int{257, 0}, []int{256, 768}, 768},
		{[]int{0, 5}, []int{256, 256}, 261},
		{[]int{256, 256, 1}, []int{256, 512, 768}, 769},
		{[]int{0, 0, 0, 0}, []int{512, 512, 512, 512}, 512},
		{[]int{1, 0, 300, 0}, []int{512, 768, 768, 1280}, 1280},
		{[]int{1024, 1024, 1024, 1024}, []int{512, 1536, 2560, 3584}, 4608},
	} {
		x := image(c.lens...)
		s, e := elf.Write(x)
		if len(s) != c.whole || e != api.OK {
			t.Errorf("Data of %v: a file of %d bytes, %d, not of %d", c.lens, len(s), e, c.whole)
			continue
		}
		// What is behind what is told, and isn't Data, is noughts.
		want := []byte(s[:segAt(len(c.lens))] + strings.Repeat("\x00", c.whole-segAt(len(c.lens))))
		for i, at := range c.ats {
			if told := s[segAt(i)+8 : segAt(i)+16]; told != number(uint64(at), 8) {
				t.Errorf("Data of %v: that of %d stands at %x, not %d", c.lens, i, told, at)
			}
			copy(want[at:], x.Segs[i].Data)
		}
		if s != string(want) {
			t.Errorf("Data of %v: the file is %q, not %q", c.lens, s, want)
		}
	}
}

// TestWriteFormat: P4.1, the file is one of the widely used format: another reader of it finds the image.
func TestWriteFormat(t *testing.T) {
	for _, x := range goodImages() {
		s, _ := elf.Write(x.x)
		f, err := goelf.NewFile(strings.NewReader(s))
		if err != nil {
			t.Errorf("%s: %v", x.why, err)
			continue
		}
		if f.Class != goelf.ELFCLASS64 || f.Data != goelf.ELFDATA2LSB || f.Type != goelf.ET_EXEC || f.Machine != goelf.EM_RISCV || f.Version != goelf.EV_CURRENT {
			t.Errorf("%s: the head is %+v", x.why, f.FileHeader)
		}
		got := api.Image{Entry: f.Entry}
		for _, p := range f.Progs {
			data, err := io.ReadAll(p.Open())
			if err != nil || p.Type != goelf.PT_LOAD || p.Vaddr != p.Paddr || p.Align != 256 || p.Off%p.Align != p.Vaddr%p.Align {
				t.Errorf("%s: a segment is %+v, %v", x.why, p.ProgHeader, err)
			}
			// The format's bits of what may be done are the document's.
			got.Segs = append(got.Segs, api.Seg{At: p.Vaddr, Perm: int(p.Flags), Data: string(data), Size: p.Memsz})
		}
		if !equal(got, x.x) {
			t.Errorf("%s: another reader finds %s, not %s", x.why, told(got), told(x.x))
		}
	}
}
