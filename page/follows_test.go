package page_test

import (
	"math"
	"slices"
	"testing"

	"marline/api"
	"marline/page"
)

// cell is a place of memory: its byte, and what its page grants.
type cell struct {
	b    byte
	perm int
}

// cells is memory, place by place.
type cells map[uint64]cell

// row is a row's next number: each row of them is always the same.
type row uint64

// below is a number below n.
func (r *row) below(n uint64) uint64 {
	*r = *r*6364136223846793005 + 1442695040888963407
	return uint64(*r>>33) % n
}

// someAt is a place near one of a few that are of interest.
func (r *row) someAt() uint64 {
	near := []uint64{0, 256, 512, 768, 1024, 1 << 63, lastPage - 256, lastPage, math.MaxUint64}
	return near[r.below(uint64(len(near)))] + r.below(24) - 12
}

// can: has each of n places a page that grants perm?
func (c cells) can(at uint64, n, perm int) bool {
	for i := range uint64(n) {
		x, there := c[at+i]
		if at+i < at || !there || x.perm&perm != perm {
			return false
		}
	}
	return true
}

// put lays bytes.
func (c cells) put(at uint64, s string) {
	for i := range len(s) {
		x := c[at+uint64(i)]
		x.b = s[i]
		c[at+uint64(i)] = x
	}
}

// add adds a page, if there is none.
func (c cells) add(at uint64, perm int) bool {
	if _, there := c[at]; there {
		return false
	}
	for i := range uint64(256) {
		c[at+i] = cell{0, perm}
	}
	return true
}

// expectCells: memory is right, and is what the cells are.
func expectCells(t *testing.T, m []api.Page, c cells) {
	t.Helper()
	if !page.Right(m) || len(m)*256 != len(c) {
		t.Fatalf("memory of %d pages is not right, or not of %d places", len(m), len(c))
	}
	for _, p := range m {
		for i := range uint64(256) {
			if x, there := c[p.At+i]; !there || x != (cell{p.Data[i], p.Perm}) {
				t.Fatalf("the place %d is %d with %d, not %+v", p.At+i, p.Data[i], p.Perm, x)
			}
		}
	}
}

// mapOne maps a page, in both.
func mapOne(t *testing.T, m []api.Page, c cells, r *row) []api.Page {
	t.Helper()
	at, perm := r.someAt()&^255, int(r.below(8))
	want := api.OK
	if !c.add(at, perm) {
		want = api.ErrTwice
	}
	m, e := page.Map(m, at, 1, perm)
	if e != want {
		t.Fatalf("Map at %d answers %d, not %d", at, e, want)
	}
	return m
}

// storeOne stores a number, in both, and loads it again.
func storeOne(t *testing.T, m []api.Page, c cells, r *row) []api.Page {
	t.Helper()
	at, n, v := r.someAt(), int(r.below(8))+1, uint64(*r)
	want := api.ErrPerm
	if c.can(at, n, api.PW) {
		want = api.OK
		s := []byte{byte(v), byte(v >> 8), byte(v >> 16), byte(v >> 24), byte(v >> 32), byte(v >> 40), byte(v >> 48), byte(v >> 56)}
		c.put(at, string(s[:n]))
	}
	m, e := page.Store(m, at, n, v)
	if e != want {
		t.Fatalf("Store at %d of %d answers %d, not %d", at, n, e, want)
	}
	if e != api.OK {
		return m
	}
	want, back := api.ErrPerm, uint64(0)
	if c.can(at, n, api.PR) {
		want, back = api.OK, v<<(64-8*n)>>(64-8*n)
	}
	if got, e := page.Load(m, at, n, api.PR); got != back || e != want {
		t.Fatalf("Load at %d of %d is %x, %d, not %x, %d", at, n, got, e, back, want)
	}
	return m
}

// fillOne lays bytes, in both.
func fillOne(t *testing.T, m []api.Page, c cells, r *row) []api.Page {
	t.Helper()
	at, s := r.someAt(), someBytes(int(r.below(600)))
	want := api.ErrNone
	if c.can(at, len(s), 0) {
		want = api.OK
		c.put(at, s)
	}
	m, e := page.Fill(m, at, s)
	if e != want {
		t.Fatalf("Fill at %d of %d bytes answers %d, not %d", at, len(s), e, want)
	}
	return m
}

// TestFollows: P2.3, rows of calls, held against memory place by place.
func TestFollows(t *testing.T) {
	for start := range 60 {
		r := row(start)
		var m []api.Page
		c := cells{}
		for range 12 {
			m = mapOne(t, m, c, &r)
		}
		expectCells(t, m, c)
		for range 40 {
			before := slices.Clone(m)
			old := m
			m = storeOne(t, m, c, &r)
			expectCells(t, m, c)
			m = fillOne(t, m, c, &r)
			expectCells(t, m, c)
			if !slices.Equal(old, before) {
				t.Fatal("memory of before was written into")
			}
		}
	}
}

// TestStoreThenLoad: P2.3, what was stored is loaded, where it may be read, and nothing else is changed.
func TestStoreThenLoad(t *testing.T) {
	m := []api.Page{onePage(256, api.PW), onePage(512, readWrite), onePage(768, 7), onePage(lastPage, readWrite)}
	for n := 1; n <= 8; n++ {
		for _, at := range []uint64{256, 505, 511, 512, 700, 760, 765, 768, 1024 - uint64(n), lastPage, math.MaxUint64 - uint64(n-1)} {
			k, e := page.Store(m, at, n, fullNumber)
			if e != api.OK || !page.Right(k) || page.Same(k, m) {
				t.Errorf("Store at %d of %d: %d", at, n, e)
			}
			want, wantE := uint64(fullNumber)<<(64-8*n)>>(64-8*n), api.OK
			if at < 512 {
				want, wantE = 0, api.ErrPerm
			}
			expectLoad(t, k, at, n, api.PR, want, wantE)
			if wantE != api.OK {
				continue
			}
			old, _ := page.Load(m, at, n, api.PR)
			if back, e := page.Store(k, at, n, old); e != api.OK || !page.Same(back, m) {
				t.Errorf("Store at %d of %d changed more than that", at, n)
			}
		}
	}
}
