package page_test

import (
	"fmt"
	"math"
	"slices"
	"strings"
	"testing"

	"marline/api"
	"marline/page"
)

const (
	readWrite = api.PR | api.PW

	lastPage uint64 = math.MaxUint64 - 255 // where the last page of all begins
)

// noughts are the bytes of a new page.
var noughts = strings.Repeat("\x00", 256)

// onePage is a page whose bytes tell where they are: each one's place and a number of the page's own.
func onePage(at uint64, perm int) api.Page {
	data := make([]byte, 256)
	for i := range data {
		data[i] = byte(i) + byte(at>>8)*17
	}
	return api.Page{At: at, Perm: perm, Data: string(data)}
}

// pages are such pages at those places, with that perm.
func pages(perm int, ats ...uint64) []api.Page {
	var m []api.Page
	for _, at := range ats {
		m = append(m, onePage(at, perm))
	}
	return m
}

// manyPages are n of them, from at on.
func manyPages(perm int, at uint64, n int) []api.Page {
	var m []api.Page
	for i := range n {
		m = append(m, onePage(at+256*uint64(i), perm))
	}
	return m
}

// wrongRow is memory that isn't right, and why.
type wrongRow struct {
	why string
	m   []api.Page
}

// wrongPages are pages at 512 that aren't right by themselves.
func wrongPages() map[string]api.Page {
	good := onePage(512, 7)
	return map[string]api.Page{
		"At one above":      {At: 513, Perm: 7, Data: good.Data},
		"At one below":      {At: 511, Perm: 7, Data: good.Data},
		"At half a page":    {At: 640, Perm: 7, Data: good.Data},
		"Perm -1":           {At: 512, Perm: -1, Data: good.Data},
		"Perm 8":            {At: 512, Perm: 8, Data: good.Data},
		"Perm 15":           {At: 512, Perm: 15, Data: good.Data},
		"Perm far below":    {At: 512, Perm: math.MinInt, Data: good.Data},
		"Perm far above":    {At: 512, Perm: math.MaxInt, Data: good.Data},
		"no Data":           {At: 512, Perm: 7},
		"Data of 255 bytes": {At: 512, Perm: 7, Data: good.Data[:255]},
		"Data of 257 bytes": {At: 512, Perm: 7, Data: good.Data + "x"},
		"Data of two pages": {At: 512, Perm: 7, Data: good.Data + good.Data},
	}
}

// wrongMemory is memory that isn't right, in each way, wherever in it that is; all but what is wrong would do for places 256 to 1023.
func wrongMemory() []wrongRow {
	rows := []wrongRow{
		{"65 pages", manyPages(7, 0, 65)},
		{"200 pages", manyPages(7, 0, 200)},
		{"65 of one place", slices.Repeat(pages(7, 256), 65)},
		{"falling", pages(7, 512, 256)},
		{"falling at the end", pages(7, 0, 256, 768, 512)},
		{"falling at the beginning", pages(7, 256, 0, 512, 768)},
		{"falling from the last", pages(7, 256, 512, lastPage, 0)},
		{"twice", pages(7, 256, 256)},
		{"twice at the end", pages(7, 0, 256, 512, 512)},
		{"twice at the beginning", pages(7, 256, 256, 512, 768)},
		{"twice, the perms not the same", []api.Page{onePage(512, 4), onePage(512, 6)}},
	}
	for why, p := range wrongPages() {
		rows = append(rows,
			wrongRow{why + ", alone", []api.Page{p}},
			wrongRow{why + ", first", []api.Page{p, onePage(768, 7), onePage(1024, 7)}},
			wrongRow{why + ", in the middle", []api.Page{onePage(256, 7), p, onePage(768, 7)}},
			wrongRow{why + ", last", []api.Page{onePage(0, 7), onePage(256, 7), p}})
	}
	return rows
}

// memoryCall is a call that answers memory, and what it is called with.
type memoryCall struct {
	what string
	do   func([]api.Page) ([]api.Page, api.Errno)
}

// mapCall is a call of Map.
func mapCall(at uint64, n, perm int) memoryCall {
	return memoryCall{fmt.Sprintf("Map at %d of %d pages with %d", at, n, perm), func(m []api.Page) ([]api.Page, api.Errno) {
		return page.Map(m, at, n, perm)
	}}
}

// storeCall is a call of Store.
func storeCall(at uint64, n int, v uint64) memoryCall {
	return memoryCall{fmt.Sprintf("Store at %d of %d bytes of %x", at, n, v), func(m []api.Page) ([]api.Page, api.Errno) {
		return page.Store(m, at, n, v)
	}}
}

// fillCall is a call of Fill.
func fillCall(at uint64, s string) memoryCall {
	return memoryCall{fmt.Sprintf("Fill at %d of %d bytes", at, len(s)), func(m []api.Page) ([]api.Page, api.Errno) {
		return page.Fill(m, at, s)
	}}
}

// firstOther tells the first page in which memory isn't what it should be, or how many pages there are.
func firstOther(got, want []api.Page) string {
	if len(got) != len(want) {
		return fmt.Sprintf("%d pages, not %d", len(got), len(want))
	}
	for i := range got {
		if got[i] != want[i] {
			return fmt.Sprintf("page %d is %q, not %q", i, fmt.Sprint(got[i]), fmt.Sprint(want[i]))
		}
	}
	return "the same pages"
}

// expectMemory: a call with m answers want and wantE; m stays as it was, and shares nothing with what comes out.
func expectMemory(t *testing.T, why string, m []api.Page, c memoryCall, want []api.Page, wantE api.Errno) {
	t.Helper()
	// A page behind the list's end: a call that appends to what it was handed would write there.
	whole := append(slices.Clone(m), api.Page{At: 3})
	before := slices.Clone(whole)
	got, e := c.do(whole[:len(m)])
	if e != wantE {
		t.Errorf("%s: %s answers %d, not %d", why, c.what, e, wantE)
	}
	if !slices.Equal(got, want) {
		t.Errorf("%s: %s: %s", why, c.what, firstOther(got, want))
	}
	if !slices.Equal(whole, before) {
		t.Errorf("%s: %s wrote into what it was handed", why, c.what)
	}
	for i := range got {
		got[i] = api.Page{At: 1}
	}
	if !slices.Equal(whole, before) {
		t.Errorf("%s: %s: what comes out shares memory with what went in", why, c.what)
	}
}

// patched is m with the bytes of s from the page i's byte from on, on into the pages behind it.
func patched(m []api.Page, i, from int, s string) []api.Page {
	out := slices.Clone(m)
	for k := range len(s) {
		p := &out[i+(from+k)/256]
		at := (from + k) % 256
		p.Data = p.Data[:at] + s[k:k+1] + p.Data[at+1:]
	}
	return out
}
