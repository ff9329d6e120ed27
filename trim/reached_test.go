package trim_test

import (
	"slices"
	"testing"

	"marline/api"
)

// TestReachedNothing: P13.2, a function of no blocks.
func TestReachedNothing(t *testing.T) {
	expectReached(t, api.Func{})
	expectReached(t, api.Func{Name: "f", Bind: api.BStrong, Params: 6})
	expectReached(t, api.Func{Name: "f", Bind: api.BWeak, Blocks: []api.Block{}})
}

// TestReachedOne: P13.2, a function of one block: it is reached, wherever its end leads.
func TestReachedOne(t *testing.T) {
	for _, text := range []string{"read; ret 0", "/1; ret 0", "jump 0", "/2; jump 0: 1 0", "read; if 0: 0: 0"} {
		expectReached(t, rightFunc(t, text), 0)
	}
}

// TestReachedEnds: P13.2, where each end leads: To of TJump, To and Else of TIf, nowhere of TRet.
func TestReachedEnds(t *testing.T) {
	const one, two, three = "load a; ret 0", "load b; ret 0", "load c; ret 0"
	for text, want := range map[string][]int{
		"read; ret 0":      {0},
		"jump 0":           {0},
		"jump 1":           {0, 1},
		"jump 2":           {0, 2},
		"jump 3":           {0, 3},
		"read; if 0: 1: 2": {0, 1, 2},
		"read; if 0: 2: 1": {0, 1, 2},
		"read; if 0: 3: 3": {0, 3},
		"read; if 0: 0: 3": {0, 3},
		"read; if 0: 3: 0": {0, 3},
		"read; if 0: 0: 0": {0},
		"read; if 0: 1: 3": {0, 1, 3},
	} {
		expectReached(t, rightFunc(t, text, one, two, three), want...)
	}
}

// TestReachedWays: P13.2, blocks that are reached by way of others, also backwards, also twice.
func TestReachedWays(t *testing.T) {
	const ret = "read; ret 0"
	expectReached(t, rightFunc(t, "jump 1", "jump 2", "jump 3", ret), 0, 1, 2, 3)
	expectReached(t, rightFunc(t, "jump 3", ret, "jump 1", "jump 2"), 0, 1, 2, 3)
	expectReached(t, rightFunc(t, "jump 3", ret, ret, "jump 2"), 0, 2, 3)
	expectReached(t, rightFunc(t, "jump 2", "jump 3", ret, ret), 0, 2)
	expectReached(t, rightFunc(t, "read; if 0: 1: 2", "jump 3", "jump 3", ret, ret), 0, 1, 2, 3)
	expectReached(t, rightFunc(t, "read; if 0: 4: 3", ret, ret, ret, "jump 1"), 0, 1, 3, 4)
	expectReached(t, rightFunc(t, ret, "jump 2", "jump 3", ret), 0)
}

// TestReachedRings: P13.2, blocks that lead to themselves, rings that are reached, and such that nothing leads to.
func TestReachedRings(t *testing.T) {
	const ret = "read; ret 0"
	expectReached(t, rightFunc(t, "jump 1", "jump 1", "jump 2"), 0, 1)
	expectReached(t, rightFunc(t, "jump 0", "jump 1", ret), 0)
	expectReached(t, rightFunc(t, "jump 1", "jump 0", ret), 0, 1)
	expectReached(t, rightFunc(t, "jump 1", "jump 2", "jump 1", "jump 1"), 0, 1, 2)
	expectReached(t, rightFunc(t, ret, "jump 2", "jump 1"), 0)
	expectReached(t, rightFunc(t, ret, "jump 2", "jump 3", "jump 1"), 0)
	expectReached(t, rightFunc(t, "jump 4", "jump 2", "read; if 0: 1: 0", "jump 4", ret), 0, 4)
	expectReached(t, rightFunc(t, "jump 4", "jump 2", "read; if 0: 1: 4", "jump 4", ret), 0, 4)
}

// TestReachedAsks: P13.2, where an end leads may hang on a value that is always the same: both ways are reached all the same.
func TestReachedAsks(t *testing.T) {
	for _, k := range []string{"const 0", "const 1"} {
		expectReached(t, rightFunc(t, k+"; if 0: 1: 2", "read; ret 0", "read; ret 0"), 0, 1, 2)
	}
}

// allOfThree are functions of three blocks, of each end that leads somewhere in all ways.
func allOfThree() []api.Func {
	ends := []string{"ret 0", "jump 0: 0", "jump 1", "jump 2: 2 0"}
	ways := []string{"0 1", "1", "2 0 2"}
	for _, to := range ways {
		for _, other := range ways {
			ends = append(ends, "if 2: "+to+": "+other)
		}
	}
	var l []api.Func
	for _, one := range ends {
		for _, two := range ends {
			for _, three := range ends {
				l = append(l, function("f", "/1; load x; read; "+one, "load y; read; const 1; "+two, "/2; load z; "+three))
			}
		}
	}
	return l
}

// TestReachedThree: P13.2, of all functions of three blocks, held against the chapter's words.
func TestReachedThree(t *testing.T) {
	met := [4]int{}
	for _, f := range allOfThree() {
		want := reachedOf(f)
		met[len(want)]++
		expectReached(t, f, want...)
	}
	if slices.Min(met[1:]) < 100 {
		t.Errorf("functions of one, two, three blocks that are reached: %v", met[1:])
	}
}

// TestReachedAny: P13.2, of functions of all sorts, likewise.
func TestReachedAny(t *testing.T) {
	less := 0
	for start := range 6000 {
		f := randomFrom(start).anyFunc()
		want := reachedOf(f)
		if len(want) < len(f.Blocks) {
			less++
		}
		expectReached(t, f, want...)
	}
	if less < 1500 || less > 4500 {
		t.Errorf("in %d functions there are blocks that aren't reached", less)
	}
}

// TestReachedLong: P13.2, a long row of blocks, each of which leads to the next one, or to the one ahead of it.
func TestReachedLong(t *testing.T) {
	var f, back api.Func
	var all []int
	for at := range 20000 {
		f.Blocks = append(f.Blocks, api.Block{End: api.Term{Kind: api.TJump, To: (at + 1) % 20000}})
		back.Blocks = append(back.Blocks, api.Block{End: api.Term{Kind: api.TJump, To: (at + 19999) % 20000}})
		all = append(all, at)
	}
	expectReached(t, f, all...)
	expectReached(t, back, all...)
	f.Blocks[9999].End.To = 3
	expectReached(t, f, all[:10000]...)
}
