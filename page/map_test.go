package page_test

import (
	"math"
	"slices"
	"testing"

	"marline/api"
	"marline/page"
)

// newPages are n pages of noughts, from at on.
func newPages(perm int, at uint64, n int) []api.Page {
	var m []api.Page
	for i := range n {
		m = append(m, api.Page{At: at + 256*uint64(i), Perm: perm, Data: noughts})
	}
	return m
}

// TestMap: P2.1, new pages in their places: in nothing, ahead of, between and behind others.
func TestMap(t *testing.T) {
	old := pages(5, 512, 2048, 4096)
	for _, x := range []struct {
		at   uint64
		n, i int // i: how many old ones stand ahead
	}{{0, 1, 0}, {0, 2, 0}, {256, 1, 0}, {768, 1, 1}, {768, 5, 1}, {1792, 1, 1}, {1024, 3, 1}, {2304, 7, 2}, {4352, 1, 3}, {4352, 61, 3}, {1 << 63, 2, 3}, {lastPage, 1, 3}, {lastPage - 256, 2, 3}} {
		fresh := newPages(6, x.at, x.n)
		want := slices.Concat(old[:x.i], fresh, old[x.i:])
		expectMemory(t, "among three", old, mapCall(x.at, x.n, 6), want, api.OK)
		expectMemory(t, "in nil", nil, mapCall(x.at, x.n, 6), fresh, api.OK)
		expectMemory(t, "in no pages", []api.Page{}, mapCall(x.at, x.n, 6), fresh, api.OK)
		if m, _ := page.Map(old, x.at, x.n, 6); !page.Right(m) {
			t.Errorf("%d pages at %d: not right", x.n, x.at)
		}
	}
}

// TestMapPerms: P2.1, perms 0 to 7 and no others.
func TestMapPerms(t *testing.T) {
	old := pages(5, 512)
	for perm := range 8 {
		want := []api.Page{{At: 256, Perm: perm, Data: noughts}, old[0]}
		expectMemory(t, "a perm that may be", old, mapCall(256, 1, perm), want, api.OK)
	}
	for _, perm := range []int{-1, -2, -8, 8, 9, 15, 16, 256, math.MinInt, math.MaxInt} {
		expectMemory(t, "a perm that may not be", old, mapCall(256, 1, perm), old, api.ErrArg)
	}
}

// TestMapCounts: P2.1, 1 to 64 pages at once, in nothing.
func TestMapCounts(t *testing.T) {
	for n := -3; n < 70; n++ {
		if n < 1 || n > 64 {
			expectMemory(t, "a number that may not be", nil, mapCall(1024, n, 4), nil, api.ErrArg)
			continue
		}
		expectMemory(t, "a number that may be", nil, mapCall(1024, n, 4), newPages(4, 1024, n), api.OK)
	}
	for _, n := range []int{math.MinInt, -1 << 56, 1 << 55, 1 << 56, 1<<56 + 1, math.MaxInt} {
		expectMemory(t, "a number far off", pages(7, 256), mapCall(1024, n, 4), pages(7, 256), api.ErrArg)
	}
}

// TestMapPlaces: P2.1, multiples of 256 alone.
func TestMapPlaces(t *testing.T) {
	old := pages(7, 1<<20)
	for at := range uint64(514) {
		want, e := old, api.ErrArg
		if at%256 == 0 {
			want, e = append(newPages(1, at, 1), old...), api.OK
		}
		expectMemory(t, "a place", old, mapCall(at, 1, 1), want, e)
	}
	for _, at := range []uint64{1<<20 + 1, lastPage + 1, math.MaxUint64, 1<<63 + 128} {
		expectMemory(t, "no multiple", old, mapCall(at, 1, 1), old, api.ErrArg)
	}
}

// TestMapEnd: P2.1, pages up to 2^64, and none above it.
func TestMapEnd(t *testing.T) {
	old := pages(7, 256, 4096)
	for n := 1; n <= 62; n++ {
		at := lastPage - 256*uint64(n-1)
		expectMemory(t, "up to 2^64", old, mapCall(at, n, 2), append(slices.Clone(old), newPages(2, at, n)...), api.OK)
		expectMemory(t, "one above", old, mapCall(at, n+1, 2), old, api.ErrArg)
		expectMemory(t, "many above", old, mapCall(at, 64, 2), old, api.ErrArg)
	}
	top := lastPage - 63*256
	expectMemory(t, "64 up to 2^64", nil, mapCall(top, 64, 2), newPages(2, top, 64), api.OK)
	expectMemory(t, "64, one above", nil, mapCall(top+256, 64, 2), nil, api.ErrArg)
}

// TestMapTwice: P2.1, a page that is there already, whichever of the new ones it is.
func TestMapTwice(t *testing.T) {
	old := []api.Page{onePage(1024, 0), onePage(4096, 7), onePage(lastPage, 3)}
	for _, x := range []struct {
		at uint64
		n  int
	}{{1024, 1}, {1024, 5}, {768, 2}, {768, 3}, {0, 5}, {0, 20}, {4096, 1}, {3840, 2}, {1280, 12}, {1280, 64}, {lastPage, 1}, {lastPage - 512, 3}} {
		expectMemory(t, "there already", old, mapCall(x.at, x.n, 7), old, api.ErrTwice)
	}
	full := manyPages(7, 0, 64)
	for at := uint64(0); at < 64*256; at += 256 {
		expectMemory(t, "there already, though full", full, mapCall(at, 1, 7), full, api.ErrTwice)
	}
	expectMemory(t, "there already, and too many", full, mapCall(63*256, 2, 7), full, api.ErrTwice)
}

// TestMapBig: P2.1, 64 pages in all.
func TestMapBig(t *testing.T) {
	for old := range 65 {
		m := manyPages(5, 1<<32, old)
		for n := 1; n <= 64; n++ {
			want, e := m, api.ErrBig
			if old+n <= 64 {
				want, e = append(newPages(3, 0, n), m...), api.OK
			}
			expectMemory(t, "so many and so many", m, mapCall(0, n, 3), want, e)
		}
	}
}

// TestMapWrong: P2.1, memory that isn't right, whatever else is wrong.
func TestMapWrong(t *testing.T) {
	for _, x := range wrongMemory() {
		for _, at := range []uint64{0, 256, 512, 1 << 30, lastPage} {
			expectMemory(t, x.why, x.m, mapCall(at, 1, 7), x.m, api.ErrArg)
			expectMemory(t, x.why, x.m, mapCall(at, 64, 7), x.m, api.ErrArg)
		}
	}
}

// TestMapFirst: P2.1, of several errors the first one.
func TestMapFirst(t *testing.T) {
	full := manyPages(7, 0, 64)
	for _, x := range []struct {
		at      uint64
		n, perm int
		e       api.Errno
	}{
		{1, 1, 7, api.ErrArg}, {0, 0, 7, api.ErrArg}, {0, 65, 7, api.ErrArg}, {0, 1, 8, api.ErrArg}, {lastPage, 2, 7, api.ErrArg}, // ahead of ErrTwice or ErrBig
		{0, 1, 7, api.ErrTwice}, {63 * 256, 64, 7, api.ErrTwice},
		{64 * 256, 1, 7, api.ErrBig}, {lastPage, 1, 7, api.ErrBig},
	} {
		expectMemory(t, "of several", full, mapCall(x.at, x.n, x.perm), full, x.e)
	}
}
