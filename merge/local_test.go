package merge_test

import (
	"fmt"
	"math"
	"slices"
	"strconv"
	"strings"
	"testing"

	"marline/merge"
)

// expectLocal: Local answers this name and number, and leaves what it was handed as it was.
func expectLocal(t *testing.T, n int, taken []string, name string, next int) {
	t.Helper()
	before := slices.Clone(taken)
	for range 2 {
		if s, k := merge.Local(n, taken); s != name || k != next {
			t.Errorf("Local(%d, %.300q) answers %q, %d, not %q, %d", n, taken, s, k, name, next)
		}
	}
	if !slices.Equal(taken, before) {
		t.Errorf("Local(%d, %.300q) wrote into what it was handed", n, before)
	}
}

// TestLocal: P10.1, the least number that is free, and the one behind it.
func TestLocal(t *testing.T) {
	for _, x := range []struct {
		n     int
		taken string
		name  string
		next  int
	}{
		{3, ".3", ".4", 5}, // the document's
		{0, "", ".0", 1},
		{1, "", ".1", 2},
		{9, "", ".9", 10},
		{10, "", ".10", 11},
		{123456789, "", ".123456789", 123456790},
		// taken
		{0, ".0", ".1", 2},
		{0, ".0 .1 .2", ".3", 4},
		{0, ".2 .1 .0", ".3", 4},
		{0, ".0 .2", ".1", 2},
		{1, ".0 .2", ".1", 2},
		{2, ".0 .2", ".3", 4},
		{8, ".8 .9 .10 .11", ".12", 13},
		{9, ".8 .9 .10 .11", ".12", 13},
		{98, ".98 .99 .100", ".101", 102},
		{5, ".5 .5 .5 .6 .5", ".7", 8},
		{5, ".4 .6 .7", ".5", 6},
		{0, "f main .1 .1", ".0", 1},
		// below 0
		{-1, "", ".0", 1},
		{-5, ".0 .1", ".2", 3},
		{-7, ".-7 .-6 .-0", ".0", 1},
		{-1, ".1", ".0", 1},
		// what looks like it, and isn't
		{3, "3 .03 ..3 .3. .+3 .3.0 .0x3 :3 .३ ,3", ".3", 4},
		{0, ". .00 0 .o .O .-0 .+0", ".0", 1},
		{1, ".10 .11 .01 .1e0", ".1", 2},
	} {
		expectLocal(t, x.n, strings.Fields(x.taken), x.name, x.next)
	}
	expectLocal(t, 3, []string{".3 ", " .3", ".3\x00", "", ".3\n.4"}, ".3", 4)
	expectLocal(t, 3, nil, ".3", 4)
}

// TestLocalLeast: P10.1, all that may be taken of six numbers, from each of them on.
func TestLocalLeast(t *testing.T) {
	for some := range 1 << 6 {
		var taken []string
		for k := range 6 {
			if some>>k&1 == 1 {
				taken = append(taken, fmt.Sprint(".", k))
			}
		}
		for n := -2; n <= 6; n++ {
			least := max(n, 0)
			for slices.Contains(taken, fmt.Sprint(".", least)) {
				least++
			}
			expectLocal(t, n, taken, fmt.Sprint(".", least), least+1)
		}
	}
}

// TestLocalMany: P10.1 and R1, of many that are taken, in any order.
func TestLocalMany(t *testing.T) {
	var taken []string
	for k := range 100000 {
		taken = append(taken, "."+strconv.Itoa((k*77777+5)%100000))
	}
	expectLocal(t, 0, taken, ".100000", 100001)
	expectLocal(t, 99999, taken, ".100000", 100001)
	taken[7] = "f" // it was 5 + 7 * 77777 modulo 100000
	expectLocal(t, 0, taken, ".44444", 44445)
	expectLocal(t, 44445, taken, ".100000", 100001)
}

// TestLocalEdges: P10.1, R1 and R5, the least and the greatest numbers: a name's number is one of any size, the number that is told goes round.
func TestLocalEdges(t *testing.T) {
	const greatest = math.MaxInt
	expectLocal(t, math.MinInt, nil, ".0", 1)
	expectLocal(t, math.MinInt, []string{".0"}, ".1", 2)
	expectLocal(t, math.MinInt+1, []string{".-9223372036854775808"}, ".0", 1)
	expectLocal(t, greatest-1, nil, ".9223372036854775806", greatest)
	expectLocal(t, greatest-1, []string{".9223372036854775806"}, ".9223372036854775807", math.MinInt)
	expectLocal(t, greatest, nil, ".9223372036854775807", math.MinInt)
	expectLocal(t, greatest, []string{".0", ".-9223372036854775808"}, ".9223372036854775807", math.MinInt)
	expectLocal(t, greatest, []string{".9223372036854775807"}, ".9223372036854775808", math.MinInt+1)
	expectLocal(t, greatest, []string{".9223372036854775808", ".9223372036854775807"}, ".9223372036854775809", math.MinInt+2)
}
