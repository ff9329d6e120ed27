package elf

import (
	"marline/api"
)

// Where the head has the two numbers that are not the same in all files.
const (
	entryAt = 24
	countAt = 56
)

// taker takes the numbers of s one after the other: each call the next one, of so many bytes, which s has.
func taker(s string) func(wide int) uint64 {
	return func(wide int) uint64 {
		var v uint64
		for i := range wide {
			v |= uint64(s[i]) << (8 * i)
		}
		s = s[wide:]
		return v
	}
}

// takeHead are Entry and how many segments there are, by the head of s.
func takeHead(s string) (entry, count uint64, e api.Errno) {
	if len(s) < headBytes {
		return 0, 0, api.ErrMore
	}
	entry = taker(s[entryAt:])(wideBytes)
	count = taker(s[countAt:])(halfBytes)
	var right file
	right.head(entry, count)
	switch {
	case s[:headBytes] != right.String():
		return 0, 0, api.ErrForm
	case count > api.MaxSegs:
		return 0, 0, api.ErrBig
	case uint64(len(s)) < headBytes+segBytes*count:
		return 0, 0, api.ErrMore
	}
	return entry, count, api.OK
}

// takeSegs are as many segments, by what told tells of them, with their Data in s.
func takeSegs(told, s string, count uint64) ([]api.Seg, api.Errno) {
	take := taker(told)
	out := make([]api.Seg, 0, count)
	for range count {
		g, e := takeSeg(take, s)
		if e != api.OK {
			return nil, e
		}
		out = append(out, g)
	}
	return out, api.OK
}

// takeSeg is the segment of the next numbers, with its Data in s.
func takeSeg(take func(wide int) uint64, s string) (api.Seg, api.Errno) {
	kind, perm := take(wordBytes), take(wordBytes)
	from, at, again := take(wideBytes), take(wideBytes), take(wideBytes)
	n, size, last := take(wideBytes), take(wideBytes), take(wideBytes)
	if kind != loaded || again != at || last != api.PageSize {
		return api.Seg{}, api.ErrForm
	}
	data, there := cut(s, from, n)
	if !there {
		return api.Seg{}, api.ErrMore
	}
	return api.Seg{At: at, Perm: int(perm), Data: data, Size: size}, api.OK
}

// cut are n bytes of s from that place on, and whether s has all of them: if there are none to have, it has, wherever that is.
func cut(s string, from, n uint64) (string, bool) {
	whole := uint64(len(s))
	switch {
	case n == 0:
		return "", true
	case from > whole, n > whole-from: // not from+n, which may be more than a uint64
		return "", false
	}
	return s[from : from+n], true
}
