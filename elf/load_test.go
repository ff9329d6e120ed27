package elf_test

import (
	"fmt"
	"slices"
	"strings"
	"testing"

	"marline/api"
	"marline/elf"
	"marline/enc"
	"marline/page"
	"marline/rv"
)

// pagesOf are the pages of an image, one by one.
func pagesOf(x api.Image) []api.Page {
	var m []api.Page
	for _, g := range x.Segs {
		n := (int(g.Size) + 255) / 256
		data := g.Data + strings.Repeat("\x00", 256*n-len(g.Data))
		for i := range n {
			m = append(m, api.Page{At: g.At + 256*uint64(i), Perm: g.Perm, Data: data[256*i : 256*i+256]})
		}
	}
	return m
}

// expectNothing: a machine has nothing but zero values.
func expectNothing(t *testing.T, why string, m api.Mach) {
	t.Helper()
	if len(m.M) != 0 || m.X != [32]uint64{} || m.Pc != 0 || m.In != "" || m.Out != "" || m.State != 0 || m.Code != 0 || m.Steps != 0 {
		t.Errorf("%s: with an error, the machine is %+v", why, m)
	}
}

// expectLoaded: Load answers a machine with these pages, that is about to begin.
func expectLoaded(t *testing.T, why string, x api.Image, in string) {
	t.Helper()
	m, e := elf.Load(x, in)
	if e != api.OK {
		t.Errorf("%s: Load answers %d", why, e)
		return
	}
	if m.State != api.MRuns || m.Pc != x.Entry || m.In != in || m.X != [32]uint64{} || m.Out != "" || m.Code != 0 || m.Steps != 0 {
		t.Errorf("%s: Load answers State %d, Pc %d, In %q, registers %v, Out %q, Code %d, Steps %d", why, m.State, m.Pc, m.In, m.X, m.Out, m.Code, m.Steps)
	}
	want := pagesOf(x)
	if !page.Right(m.M) || len(m.M) != len(want) {
		t.Errorf("%s: %d pages, not %d, or not right", why, len(m.M), len(want))
		return
	}
	for i, p := range m.M {
		if p != want[i] {
			t.Errorf("%s: page %d is %+v, not %+v", why, i, p, want[i])
		}
	}
}

// TestLoad: P4.2, machines of images that may be; ErrBig, if they have too many pages.
func TestLoad(t *testing.T) {
	for _, x := range goodImages() {
		whole := append(slices.Clone(x.x.Segs), api.Seg{At: 3})
		before := slices.Clone(whole)
		x.x.Segs = whole[:len(whole)-1]
		if len(pagesOf(x.x)) > 64 {
			m, e := elf.Load(x.x, "in")
			if e != api.ErrBig {
				t.Errorf("%s: Load of %d pages answers %d", x.why, len(pagesOf(x.x)), e)
			}
			expectNothing(t, x.why, m)
			continue
		}
		for _, in := range []string{"", "in", "\x00\xff", strings.Repeat("long", 1000)} {
			expectLoaded(t, x.why, x.x, in)
		}
		if !slices.Equal(whole, before) {
			t.Errorf("%s: Load wrote into what it was handed", x.why)
		}
	}
}

// TestLoadRefuses: P4.2, images that may not be have no machine.
func TestLoadRefuses(t *testing.T) {
	for _, x := range badImages() {
		m, e := elf.Load(x.x, "in")
		if e != api.ErrArg {
			t.Errorf("%s: Load answers %d, not ErrArg", x.why, e)
		}
		expectNothing(t, x.why, m)
	}
}

// TestLoadBig: P4.2, at most MaxPages pages, in one segment or in several; that an image may not be is told ahead.
func TestLoadBig(t *testing.T) {
	segs := func(sizes ...uint64) api.Image {
		x := api.Image{Entry: 1 << 20}
		for i, size := range sizes {
			x.Segs = append(x.Segs, oneSeg(uint64(i+1)<<20, []int{5, 6, 4, 2}[i], 1, size))
		}
		return x
	}
	for _, c := range []struct {
		sizes []uint64
		want  api.Errno
	}{
		{[]uint64{16384}, api.OK},
		{[]uint64{16384, 1}, api.ErrBig},
		{[]uint64{1, 16384}, api.ErrBig},
		{[]uint64{16128, 256}, api.OK},
		{[]uint64{16128, 257}, api.ErrBig},
		{[]uint64{16129, 1}, api.ErrBig},
		{[]uint64{8192, 8192}, api.OK},
		{[]uint64{8192, 8193}, api.ErrBig},
		{[]uint64{4096, 4096, 4096, 4096}, api.OK},
		{[]uint64{4096, 4096, 4096, 4097}, api.ErrBig},
		{[]uint64{15616, 1, 1, 1}, api.OK},
		{[]uint64{15617, 1, 1, 257}, api.ErrBig},
		{[]uint64{16384, 16384, 16384, 16384}, api.ErrBig},
	} {
		x, why := segs(c.sizes...), fmt.Sprint("sizes ", c.sizes)
		if c.want == api.OK {
			expectLoaded(t, why, x, "in")
			continue
		}
		if !elf.May(x) {
			t.Errorf("%s: may not be", why)
		}
		m, e := elf.Load(x, "in")
		if e != c.want {
			t.Errorf("%s: Load answers %d, not %d", why, e, c.want)
		}
		expectNothing(t, why, m)
		x.Entry = 1
		m, e = elf.Load(x, "in")
		if e != api.ErrArg {
			t.Errorf("%s, and it may not be: Load answers %d, not ErrArg", why, e)
		}
		expectNothing(t, why, m)
	}
}

// TestLoadApart: R3, what is done with one machine is not seen in another one of the image.
func TestLoadApart(t *testing.T) {
	x := twoSegs()
	m, _ := elf.Load(x, "in")
	for i := range m.M {
		m.M[i] = api.Page{At: 1}
	}
	expectLoaded(t, "loaded again", x, "in")
}

// TestLoadRuns: P4.2, a machine that is loaded does what the instructions of the image say, from Entry on.
func TestLoadRuns(t *testing.T) {
	s, e := enc.Bytes([]api.Op{
		{Kind: api.KJal, Imm: -4096}, // not where it begins
		{Kind: api.KAddi, Rd: 17, Imm: api.CRead},
		{Kind: api.KEcall},
		{Kind: api.KLui, Rd: 5, Imm: 69632},
		{Kind: api.KLd, Rd: 6, A: 5},
		{Kind: api.KAdd, Rd: 10, A: 10, B: 6},
		{Kind: api.KSd, A: 5, B: 10, Imm: 8},
		{Kind: api.KAddi, Rd: 17, Imm: api.CExit},
		{Kind: api.KEcall},
	})
	if e != api.OK {
		t.Fatal(e)
	}
	x := api.Image{Entry: 65540, Segs: []api.Seg{
		{At: 65536, Perm: api.PX, Data: s, Size: uint64(len(s))}, {At: 69632, Perm: readWrite, Data: number(1000, 8), Size: 16},
	}}
	m, e := elf.Load(x, "*rest")
	if e != api.OK {
		t.Fatal(e)
	}
	k := rv.Run(m, 100)
	if v, e := page.Load(k.M, 69640, 8, api.PR); k.State != api.MEnds || k.Code != 1042 || k.Steps != 8 || k.In != "rest" || v != 1042 || e != api.OK {
		t.Errorf("State %d, Code %d, Steps %d, In %q; stored is %d, %d", k.State, k.Code, k.Steps, k.In, v, e)
	}
}
