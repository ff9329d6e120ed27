package page_test

import (
	"math"
	"strings"
	"testing"

	"marline/api"
)

// someBytes are n bytes, those beside each other not the same.
func someBytes(n int) string {
	var b strings.Builder
	for i := range n {
		b.WriteByte(byte(i*7 + i>>8 + 1))
	}
	return b.String()
}

// TestFill: P2.2, bytes in one page, over two, over all; all others stay.
func TestFill(t *testing.T) {
	m := manyPages(0, 512, 5)
	for _, n := range []int{1, 2, 3, 8, 9, 100, 255, 256, 257, 512, 600, 1024, 1279, 1280} {
		s := someBytes(n)
		for _, from := range []int{0, 1, 100, 254, 255, 256, 257, 512, 1023, 1024, 1279, 1280 - n} {
			want, e := m, api.ErrNone
			switch {
			case from < 0:
				continue
			case from+n <= 1280:
				want, e = patched(m, 0, from, s), api.OK
			}
			expectMemory(t, "bytes", m, fillCall(512+uint64(from), s), want, e)
		}
	}
}

// TestFillAll: P2.2, all bytes of 64 pages, and one more.
func TestFillAll(t *testing.T) {
	m := manyPages(5, 1<<20, 64)
	s := someBytes(64*256 + 1)
	expectMemory(t, "all", m, fillCall(1<<20, s[:64*256]), patched(m, 0, 0, s[:64*256]), api.OK)
	expectMemory(t, "one more", m, fillCall(1<<20, s), m, api.ErrNone)
	expectMemory(t, "one ahead", m, fillCall(1<<20-1, s), m, api.ErrNone)
	expectMemory(t, "many more", m, fillCall(1<<20, strings.Repeat(s, 20)), m, api.ErrNone)
}

// TestFillPerms: P2.2, whatever the pages grant.
func TestFillPerms(t *testing.T) {
	for a := range 8 {
		for b := range 8 {
			m := []api.Page{onePage(256, a), onePage(512, b)}
			expectMemory(t, "perms", m, fillCall(510, "abcd"), patched(m, 0, 254, "abcd"), api.OK)
		}
	}
}

// TestFillNothing: P2.2, no bytes have no places that could lack a page.
func TestFillNothing(t *testing.T) {
	for _, m := range [][]api.Page{nil, {}, pages(0, 256), manyPages(7, 0, 64)} {
		for _, at := range []uint64{0, 1, 255, 256, 512, 1 << 63, lastPage, math.MaxUint64} {
			expectMemory(t, "no bytes", m, fillCall(at, ""), m, api.OK)
		}
	}
}

// TestFillNone: P2.2, a place without a page, the first, the last or one between.
func TestFillNone(t *testing.T) {
	m := pages(7, 256, 512, 1024)
	for _, x := range []struct {
		at uint64
		n  int
	}{{0, 1}, {255, 1}, {255, 2}, {255, 257}, {256, 513}, {511, 258}, {767, 2}, {768, 1}, {1023, 1}, {1023, 2}, {700, 400}, {256, 1024}, {1024, 257}, {1279, 2}, {1280, 1}, {1 << 63, 3}} {
		expectMemory(t, "no page", m, fillCall(x.at, someBytes(x.n)), m, api.ErrNone)
		expectMemory(t, "no pages", nil, fillCall(x.at, someBytes(x.n)), nil, api.ErrNone)
	}
	expectMemory(t, "up to where none is", m, fillCall(256, someBytes(512)), patched(m, 0, 0, someBytes(512)), api.OK)
	expectMemory(t, "from where one is", m, fillCall(1024, someBytes(256)), patched(m, 2, 0, someBytes(256)), api.OK)
}

// TestFillEnds: P2.2, the first and the last place of all; there are none beyond.
func TestFillEnds(t *testing.T) {
	m := pages(4, 0, lastPage-256, lastPage)
	expectMemory(t, "the first", m, fillCall(0, "x"), patched(m, 0, 0, "x"), api.OK)
	expectMemory(t, "the last", m, fillCall(math.MaxUint64, "x"), patched(m, 2, 255, "x"), api.OK)
	expectMemory(t, "the last page", m, fillCall(lastPage, someBytes(256)), patched(m, 2, 0, someBytes(256)), api.OK)
	expectMemory(t, "the last pages", m, fillCall(lastPage-256, someBytes(512)), patched(m, 1, 0, someBytes(512)), api.OK)
	expectMemory(t, "one beyond", m, fillCall(math.MaxUint64, "xy"), m, api.ErrNone)
	expectMemory(t, "a page beyond", m, fillCall(lastPage, someBytes(512)), m, api.ErrNone)
	expectMemory(t, "one beyond the last pages", m, fillCall(lastPage-256, someBytes(513)), m, api.ErrNone)
}

// TestFillWrong: P2.2, memory that isn't right, though there were nothing to lay, or no page for it.
func TestFillWrong(t *testing.T) {
	for _, x := range wrongMemory() {
		for _, at := range []uint64{256, 511, 900, 5000, math.MaxUint64} {
			for _, n := range []int{0, 1, 2, 300} {
				expectMemory(t, x.why, x.m, fillCall(at, someBytes(n)), x.m, api.ErrArg)
			}
		}
	}
}
