package page

import (
	"slices"
	"strings"

	"marline/api"
)

// pageKey is what a page is kept by while its bytes are changed.
type pageKey struct {
	at uint64
}

// blank are n pages of noughts from at on.
func blank(at uint64, n, perm int) []api.Page {
	noughts := strings.Repeat("\x00", api.PageSize)
	out := make([]api.Page, 0, n)
	for x := range stretches(at, n*api.PageSize) {
		out = append(out, api.Page{At: x.page, Perm: perm, Data: noughts})
	}
	return out
}

// lay is m with s from at on: all these places have pages.
func lay(m []api.Page, at uint64, s string) []api.Page {
	changed := changedPages(m, at, s)
	out := slices.Clone(m)
	for x := range stretches(at, len(s)) {
		i, _ := find(m, x.page)
		out[i] = changed[pageKey{x.page}]
	}
	return out
}

// changedPages are the pages of m that have places of s, with its bytes. (Those alone: most of what is laid is small, and memory isn't.)
func changedPages(m []api.Page, at uint64, s string) map[pageKey]api.Page {
	changed := map[pageKey]api.Page{}
	for x := range stretches(at, len(s)) {
		i, _ := find(m, x.page)
		p := m[i]
		data := []byte(p.Data)
		s = s[copy(data[x.from:], s):]
		p.Data = string(data)
		changed[pageKey{x.page}] = p
	}
	return changed
}

// bytesAt are the bytes of n places from at on: all of them have pages.
func bytesAt(m []api.Page, at uint64, n int) string {
	var b strings.Builder
	for x := range stretches(at, n) {
		i, _ := find(m, x.page)
		b.WriteString(m[i].Data[x.from : x.from+x.n])
	}
	return b.String()
}

// number is that of bytes, the lowest first.
func number(s string) uint64 {
	var v uint64
	for i := range len(s) {
		v |= uint64(s[i]) << (8 * i)
	}
	return v
}

// lowest are the lowest n bytes of v, the lowest first.
func lowest(v uint64, n int) string {
	out := make([]byte, n)
	for i := range out {
		out[i] = byte(v >> (8 * i))
	}
	return string(out)
}
