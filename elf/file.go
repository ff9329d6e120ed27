package elf

import (
	"strings"

	"marline/api"
)

// How many bytes the head of a file has, and what it tells of a segment.
const (
	headBytes = 64
	segBytes  = 56
)

// How many bytes a number has.
const (
	halfBytes = 2
	wordBytes = 4
	wideBytes = 8
)

// ident begins each file: the format, its class (64 bits), its order (the lowest first), its version, and noughts.
const ident = "\x7fELF\x02\x01\x01\x00\x00\x00\x00\x00\x00\x00\x00\x00"

// What the numbers of a file are that are the same in all.
const (
	executable = 2
	machine    = 243
	version    = 1
	loaded     = 1 // what a segment is
)

// file is one that is laid, from its beginning on.
type file struct {
	strings.Builder
}

// numbers lays some, of so many bytes each, the lowest first.
func (f *file) numbers(wide int, l ...uint64) {
	for _, v := range l {
		for i := range wide {
			f.WriteByte(byte(v >> (8 * i)))
		}
	}
}

// head lays a file's head.
func (f *file) head(entry, count uint64) {
	f.WriteString(ident)
	f.numbers(halfBytes, executable, machine)
	f.numbers(wordBytes, version)
	f.numbers(wideBytes, entry, headBytes, 0)
	f.numbers(wordBytes, 0)
	f.numbers(halfBytes, headBytes, segBytes, count, 0, 0, 0)
}

// seg lays what is told of a segment whose Data stands at at.
func (f *file) seg(g api.Seg, at uint64) {
	f.numbers(wordBytes, loaded, uint64(g.Perm))
	f.numbers(wideBytes, at, g.At, g.At, uint64(len(g.Data)), g.Size, api.PageSize)
}

// noughts lays noughts up to where Data may stand.
func (f *file) noughts() {
	for f.Len()%api.PageSize != 0 {
		f.WriteByte(0)
	}
}
