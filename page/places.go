package page

import (
	"cmp"
	"iter"
	"math"
	"slices"

	"marline/api"
)

// stretch is a row of places in one page: the page's place, the first of the row in it, how many they are.
type stretch struct {
	page    uint64
	from, n int
}

// stretches are n places from at on, page by page. None of them is beyond the last place.
func stretches(at uint64, n int) iter.Seq[stretch] {
	return func(yield func(stretch) bool) {
		place, left := at, n
		for left > 0 {
			from := place % api.PageSize
			x := stretch{page: place - from, from: int(from), n: min(left, api.PageSize-int(from))}
			if !yield(x) {
				return
			}
			place += uint64(x.n)
			left -= x.n
		}
	}
}

// beyond: is one of n places from at on beyond the last place? (Their end may be 2^64, which no uint64 is: the last one is asked for.)
func beyond(at uint64, n int) bool {
	return n > 0 && uint64(n-1) > math.MaxUint64-at
}

// find is where the page at at stands in right memory, or would stand, and whether it is there.
func find(m []api.Page, at uint64) (int, bool) {
	return slices.BinarySearchFunc(m, at, func(p api.Page, at uint64) int {
		return cmp.Compare(p.At, at)
	})
}
