package page_test

import (
	"math"
	"slices"
	"testing"

	"marline/api"
	"marline/page"
)

// expectLoad: Load answers so, and m is as it was.
func expectLoad(t *testing.T, m []api.Page, at uint64, n, perm int, want uint64, wantE api.Errno) {
	t.Helper()
	in := slices.Clone(m)
	if v, e := page.Load(in, at, n, perm); v != want || e != wantE {
		t.Errorf("Load at %d of %d bytes with %d = %x, %d, not %x, %d", at, n, perm, v, e, want, wantE)
	}
	if !slices.Equal(in, m) {
		t.Errorf("Load at %d wrote into what it was handed", at)
	}
}

// TestLoad: P2.2, 1 to 8 bytes, the lowest first.
func TestLoad(t *testing.T) {
	m := []api.Page{{At: 256, Perm: api.PR, Data: "\x88\x77\x66\x55\x44\x33\x22\xf1" + noughts[8:]}}
	for n, want := range []uint64{0x88, 0x7788, 0x667788, 0x55667788, 0x4455667788, 0x334455667788, 0x22334455667788, 0xf122334455667788} {
		expectLoad(t, m, 256, n+1, api.PR, want, api.OK)
	}
	expectLoad(t, m, 263, 8, api.PR, 0xf1, api.OK)
	expectLoad(t, m, 262, 2, api.PR, 0xf122, api.OK)
	m[0].Data = noughts[:248] + "\xff\xff\xff\xff\xff\xff\xff\xff"
	expectLoad(t, m, 504, 8, api.PR, math.MaxUint64, api.OK)
	expectLoad(t, m, 511, 1, api.PR, 0xff, api.OK)
}

// TestLoadTwoPages: P2.2, bytes over two pages.
func TestLoadTwoPages(t *testing.T) {
	m := []api.Page{
		{At: 256, Perm: 7, Data: noughts[:249] + "\x01\x02\x03\x04\x05\x06\x07"},
		{At: 512, Perm: 4, Data: "\x11\x12\x13\x14\x15\x16\x17" + noughts[7:]},
	}
	expectLoad(t, m, 511, 2, api.PR, 0x1107, api.OK)
	expectLoad(t, m, 505, 8, api.PR, 0x1107060504030201, api.OK)
	expectLoad(t, m, 511, 8, api.PR, 0x1716151413121107, api.OK)
	expectLoad(t, m, 508, 8, api.PR, 0x1413121107060504, api.OK)
}

// TestLoadPlaces: P2.2, each place from below the first page to above the last, each number of bytes.
func TestLoadPlaces(t *testing.T) {
	m := pages(api.PR, 256, 512, 1024)
	place := func(at uint64) (byte, bool) {
		for _, p := range m {
			if at >= p.At && at-p.At < 256 {
				return p.Data[at-p.At], true
			}
		}
		return 0, false
	}
	for at := range uint64(1300) {
		for n := 1; n <= 8; n++ {
			var want uint64
			e := api.OK
			for i := range n {
				b, there := place(at + uint64(i))
				want |= uint64(b) << (8 * i)
				if !there {
					e = api.ErrPerm
				}
			}
			if e != api.OK {
				want = 0
			}
			expectLoad(t, m, at, n, api.PR, want, e)
		}
	}
}

// TestLoadEnds: P2.2, the first and the last place of all; places don't go round.
func TestLoadEnds(t *testing.T) {
	m := []api.Page{{At: 0, Perm: 7, Data: "\x0a" + noughts[1:]}, {At: lastPage, Perm: 7, Data: noughts[:255] + "\x0b"}}
	expectLoad(t, m, 0, 1, 7, 0x0a, api.OK)
	expectLoad(t, m, math.MaxUint64, 1, 7, 0x0b, api.OK)
	for n := 2; n <= 8; n++ {
		expectLoad(t, m, math.MaxUint64-uint64(n-1), n, 7, 0x0b<<(8*(n-1)), api.OK)
		expectLoad(t, m, math.MaxUint64-uint64(n-2), n, 7, 0, api.ErrPerm)
		expectLoad(t, m, math.MaxUint64, n, 7, 0, api.ErrPerm)
	}
	expectLoad(t, pages(7, 0), math.MaxUint64, 2, 7, 0, api.ErrPerm)
	expectLoad(t, pages(7, 0), math.MaxUint64, 1, 0, 0, api.ErrPerm)
}

// TestLoadPerms: P2.2, a page that grants it has all bits of a perm.
func TestLoadPerms(t *testing.T) {
	for have := range 8 {
		m := []api.Page{{At: 256, Perm: have, Data: "\x05" + noughts[1:]}}
		for want := range 8 {
			if have&want == want {
				expectLoad(t, m, 256, 8, want, 5, api.OK)
			} else {
				expectLoad(t, m, 256, 8, want, 0, api.ErrPerm)
			}
		}
		for _, none := range []int{8, 9, 12, 15, 16, 1 << 40, -1, -8, math.MinInt, math.MaxInt} {
			expectLoad(t, m, 256, 1, none, 0, api.ErrPerm)
		}
		for other := range 8 {
			two := append(slices.Clone(m), api.Page{At: 512, Perm: other, Data: noughts})
			for want := range 8 {
				e := api.OK
				if have&other&want != want {
					e = api.ErrPerm
				}
				expectLoad(t, two, 508, 8, want, 0, e)
			}
		}
	}
}

// TestLoadNone: P2.2, no page, no matter the perm.
func TestLoadNone(t *testing.T) {
	for perm := range 8 {
		for _, at := range []uint64{0, 255, 256, 1 << 63, math.MaxUint64} {
			expectLoad(t, nil, at, 1, perm, 0, api.ErrPerm)
			expectLoad(t, []api.Page{}, at, 8, perm, 0, api.ErrPerm)
		}
		expectLoad(t, pages(7, 256, 768), 255, 1, perm, 0, api.ErrPerm)
		expectLoad(t, pages(7, 256, 768), 512, 1, perm, 0, api.ErrPerm)
		expectLoad(t, pages(7, 256, 768), 767, 2, perm, 0, api.ErrPerm)
		expectLoad(t, pages(7, 256, 768), 1024, 1, perm, 0, api.ErrPerm)
	}
}

// TestLoadMany: P2.2, each of 64 pages.
func TestLoadMany(t *testing.T) {
	m := manyPages(4, 1<<40, 64)
	for i, p := range m {
		for _, k := range []int{0, 1, 127, 254, 255} {
			expectLoad(t, m, 1<<40+256*uint64(i)+uint64(k), 1, 4, uint64(p.Data[k]), api.OK)
		}
	}
	expectLoad(t, m, 1<<40-1, 1, 4, 0, api.ErrPerm)
	expectLoad(t, m, 1<<40+64*256, 1, 4, 0, api.ErrPerm)
}

// TestLoadWrong: P2.2, numbers of bytes that may not be, and memory that isn't right, ahead of what pages grant.
func TestLoadWrong(t *testing.T) {
	for _, n := range []int{math.MinInt, -8, -1, 0, 9, 10, 16, 256, 1 << 32, math.MaxInt} {
		for _, at := range []uint64{0, 256, 300, 508, 1024, math.MaxUint64} {
			expectLoad(t, pages(7, 256, 512), at, n, api.PR, 0, api.ErrArg)
			expectLoad(t, nil, at, n, api.PR, 0, api.ErrArg)
		}
	}
	for _, x := range wrongMemory() {
		for _, at := range []uint64{256, 512, 511, 900, 5000, math.MaxUint64} {
			expectLoad(t, x.m, at, 1, api.PR, 0, api.ErrArg)
			expectLoad(t, x.m, at, 8, 8, 0, api.ErrArg)
		}
	}
}
