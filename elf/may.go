package elf

import (
	"slices"

	"marline/api"
)

// What a segment's numbers are at the most.
const (
	atEnd    = 1 << 40 // At is below it
	allPerms = api.PX | api.PW | api.PR
)

// up is v, or the next multiple of PageSize above it.
func up(v uint64) uint64 {
	return (v + api.PageSize - 1) / api.PageSize * api.PageSize
}

// maySegs: may an image have these segments?
func maySegs(l []api.Seg) bool {
	if len(l) < 1 || len(l) > api.MaxSegs {
		return false
	}
	var end uint64 // of the pages of the one ahead
	for _, g := range l {
		if !maySeg(g) || g.At < end {
			return false
		}
		end = g.At + up(g.Size)
	}
	return true
}

// maySeg: may a segment be, by itself?
func maySeg(g api.Seg) bool {
	return g.At%api.PageSize == 0 && g.At < atEnd && mayPerm(g.Perm) &&
		1 <= g.Size && g.Size <= api.MaxSeg && uint64(len(g.Data)) <= g.Size
}

// mayPerm: may that be done with a segment?
func mayPerm(perm int) bool {
	const both = api.PX | api.PW
	return 1 <= perm && perm <= allPerms && perm&both != both
}

// mayBegin: is entry a place of a segment that holds instructions?
func mayBegin(l []api.Seg, entry uint64) bool {
	return slices.ContainsFunc(l, func(g api.Seg) bool {
		return g.Perm&api.PX != 0 && g.At <= entry && entry < g.At+g.Size
	})
}
