package page_test

import (
	"math"
	"testing"

	"marline/api"
	"marline/page"
)

// fullNumber has bytes that are not the same: "\xe8\xd7\xc6\xb5\xa4\x93\x82\xf1", the lowest first.
const (
	fullNumber = 0xf18293a4b5c6d7e8
	fullBytes  = "\xe8\xd7\xc6\xb5\xa4\x93\x82\xf1"
)

// TestStore: P2.2, the lowest n bytes, the lowest first; all others stay.
func TestStore(t *testing.T) {
	m := []api.Page{onePage(256, api.PW), onePage(512, readWrite), onePage(1024, 7)}
	for n := 1; n <= 8; n++ {
		for from := 0; from+n <= 512; from++ {
			expectMemory(t, "a number", m, storeCall(256+uint64(from), n, fullNumber), patched(m, 0, from, fullBytes[:n]), api.OK)
		}
		expectMemory(t, "0", m, storeCall(1024, n, 0), patched(m, 2, 0, noughts[:n]), api.OK)
		expectMemory(t, "the greatest", m, storeCall(1280-uint64(n), n, math.MaxUint64), patched(m, 2, 256-n, "\xff\xff\xff\xff\xff\xff\xff\xff"[:n]), api.OK)
	}
}

// TestStoreExample: the document's.
func TestStoreExample(t *testing.T) {
	m, e := page.Map(nil, 256, 1, readWrite)
	if e != api.OK {
		t.Fatal(e)
	}
	expectMemory(t, "2 bytes", m, storeCall(510, 2, fullNumber), patched(m, 0, 254, fullBytes[:2]), api.OK)
	expectMemory(t, "4 bytes", m, storeCall(510, 4, fullNumber), m, api.ErrPerm)
}

// TestStoreNone: P2.2, a place without a page, the first, the last or one between.
func TestStoreNone(t *testing.T) {
	m := pages(7, 256, 768)
	for n := 1; n <= 8; n++ {
		for _, at := range []uint64{0, 248, 512, 600, 1024, 1 << 63, math.MaxUint64 - 7, math.MaxUint64} {
			expectMemory(t, "no page", m, storeCall(at, n, 1), m, api.ErrPerm)
			expectMemory(t, "no pages", nil, storeCall(at, n, 1), nil, api.ErrPerm)
		}
		for k := 1; k < n; k++ {
			expectMemory(t, "from no page on", m, storeCall(768-uint64(k), n, 1), m, api.ErrPerm)
			expectMemory(t, "on into no page", m, storeCall(512-uint64(k), n, 1), m, api.ErrPerm)
		}
	}
}

// TestStoreEnds: P2.2, the first and the last place of all; places don't go round.
func TestStoreEnds(t *testing.T) {
	m := pages(7, 0, lastPage)
	for n := 1; n <= 8; n++ {
		expectMemory(t, "the first places", m, storeCall(0, n, fullNumber), patched(m, 0, 0, fullBytes[:n]), api.OK)
		expectMemory(t, "the last places", m, storeCall(math.MaxUint64-uint64(n-1), n, fullNumber), patched(m, 1, 256-n, fullBytes[:n]), api.OK)
		for k := 1; k < n; k++ {
			expectMemory(t, "beyond the last place", m, storeCall(math.MaxUint64-uint64(k-1), n, fullNumber), m, api.ErrPerm)
		}
	}
}

// TestStorePerms: P2.2, only pages that grant PW, both of two.
func TestStorePerms(t *testing.T) {
	for a := range 8 {
		for b := range 8 {
			m := []api.Page{onePage(256, a), onePage(512, b)}
			for _, x := range []struct {
				from  int
				grant int
			}{{0, a}, {248, a}, {249, a & b}, {255, a & b}, {256, b}, {504, b}} {
				want, e := m, api.ErrPerm
				if x.grant&api.PW != 0 {
					want, e = patched(m, 0, x.from, fullBytes), api.OK
				}
				expectMemory(t, "perms", m, storeCall(256+uint64(x.from), 8, fullNumber), want, e)
			}
		}
	}
}

// TestStoreMany: P2.2, each of 64 pages.
func TestStoreMany(t *testing.T) {
	m := manyPages(2, lastPage-63*256, 64)
	for i, p := range m {
		expectMemory(t, "in it", m, storeCall(p.At+100, 8, fullNumber), patched(m, i, 100, fullBytes), api.OK)
		if i > 0 {
			expectMemory(t, "from the one ahead on", m, storeCall(p.At-3, 8, fullNumber), patched(m, i-1, 253, fullBytes), api.OK)
		}
	}
}

// TestStoreWrong: P2.2, numbers of bytes that may not be, and memory that isn't right, ahead of what pages grant.
func TestStoreWrong(t *testing.T) {
	m := pages(7, 256, 512)
	for _, n := range []int{math.MinInt, -8, -1, 0, 9, 10, 16, 256, 1 << 32, math.MaxInt} {
		for _, at := range []uint64{0, 256, 300, 508, 1024, math.MaxUint64} {
			expectMemory(t, "no such number of bytes", m, storeCall(at, n, 1), m, api.ErrArg)
			expectMemory(t, "no such number of bytes, no pages", nil, storeCall(at, n, 1), nil, api.ErrArg)
		}
	}
	for _, x := range wrongMemory() {
		for _, at := range []uint64{256, 512, 511, 900, 5000, math.MaxUint64} {
			expectMemory(t, x.why, x.m, storeCall(at, 1, 1), x.m, api.ErrArg)
			expectMemory(t, x.why, x.m, storeCall(at, 8, 1), x.m, api.ErrArg)
		}
	}
}
