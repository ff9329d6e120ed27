package page_test

import (
	"testing"

	"marline/api"
	"marline/page"
)

// TestRight: P2.1, memory that is right: none, one page of each perm, up to 64, at the first and the last place.
func TestRight(t *testing.T) {
	for why, m := range map[string][]api.Page{
		"nil":                 nil,
		"no pages":            {},
		"the first page":      pages(7, 0),
		"the last page":       pages(7, lastPage),
		"the first and last":  pages(7, 0, lastPage),
		"apart":               pages(3, 256, 1024, 1<<40, 1<<63, lastPage-256),
		"64 pages":            manyPages(5, 1<<20, 64),
		"64 pages at the end": manyPages(5, lastPage-63*256, 64),
	} {
		if !page.Right(m) {
			t.Errorf("%s: not right", why)
		}
	}
	for perm := range 8 {
		if !page.Right([]api.Page{onePage(256, perm), onePage(512, 7-perm)}) {
			t.Errorf("perm %d: not right", perm)
		}
	}
	for n := range 70 {
		if got := page.Right(manyPages(7, 512, n)); got != (n <= 64) {
			t.Errorf("%d pages: right is %t", n, got)
		}
	}
}

// TestRightRefuses: P2.1, memory that isn't right, in each way.
func TestRightRefuses(t *testing.T) {
	for _, x := range wrongMemory() {
		if page.Right(x.m) {
			t.Errorf("%s: right", x.why)
		}
	}
}

// TestRightPlaces: P2.1, a page stands at multiples of 256 alone.
func TestRightPlaces(t *testing.T) {
	for at := range uint64(1025) {
		if got := page.Right(pages(0, at)); got != (at%256 == 0) {
			t.Errorf("a page at %d: right is %t", at, got)
		}
		if top := lastPage - at; page.Right(pages(0, top)) != (at%256 == 0) {
			t.Errorf("a page at %d: right is not %t", top, at%256 == 0)
		}
	}
}

// TestRightRises: P2.1, of two places the lower is first, as numbers without a sign.
func TestRightRises(t *testing.T) {
	ats := []uint64{0, 256, 512, 1 << 31, 1 << 32, 1<<63 - 256, 1 << 63, 1<<63 + 256, lastPage - 256, lastPage}
	for i, a := range ats {
		for j, b := range ats {
			if got := page.Right(pages(7, a, b)); got != (i < j) {
				t.Errorf("pages at %d, %d: right is %t", a, b, got)
			}
		}
	}
}

// TestRightData: P2.1, a page has 256 bytes.
func TestRightData(t *testing.T) {
	data := noughts + noughts
	for n := range len(data) {
		if got := page.Right([]api.Page{{At: 256, Perm: 4, Data: data[:n]}}); got != (n == 256) {
			t.Errorf("Data of %d bytes: right is %t", n, got)
		}
	}
}

// TestSame: P2.1, the same pages, one by one, right or not.
func TestSame(t *testing.T) {
	m := []api.Page{onePage(256, 1), onePage(512, 2), onePage(1024, 4)}
	same := func(why string, a, b []api.Page, want bool) {
		t.Helper()
		if page.Same(a, b) != want || page.Same(b, a) != want {
			t.Errorf("%s: same is not %t", why, want)
		}
	}
	same("nil and nil", nil, nil, true)
	same("nil and no pages", nil, []api.Page{}, true)
	same("none and one", nil, m[:1], false)
	same("itself", m, m, true)
	same("another list of the same", m, []api.Page{onePage(256, 1), onePage(512, 2), onePage(1024, 4)}, true)
	same("its beginning", m, m[:2], false)
	same("its end", m, m[1:], false)
	same("another order", m, []api.Page{m[1], m[0], m[2]}, false)
	for i, p := range m {
		for why, q := range map[string]api.Page{
			"At":        {At: p.At + 256, Perm: p.Perm, Data: p.Data},
			"Perm":      {At: p.At, Perm: p.Perm + 1, Data: p.Data},
			"Data":      {At: p.At, Perm: p.Perm, Data: p.Data[:255] + "x"},
			"less Data": {At: p.At, Perm: p.Perm, Data: p.Data[:255]},
		} {
			other := append([]api.Page{}, m...)
			other[i] = q
			same(why, m, other, false)
			same(why+", both", other, append([]api.Page{}, other...), true)
		}
	}
	for _, x := range wrongMemory() {
		same(x.why, x.m, append([]api.Page{}, x.m...), true)
		same(x.why+", and one less", x.m, x.m[1:], false)
	}
}
