package trim_test

import (
	"testing"

	"marline/api"
)

// TestUsedNothing: P13.1, blocks without values, and such of whose values none is used.
func TestUsedNothing(t *testing.T) {
	expectUsed(t, api.Block{})
	expectUsed(t, api.Block{Ins: []api.Inst{}, End: api.Term{Kind: api.TJump}})
	expectUsed(t, block("jump 0"))
	expectUsed(t, block("/1; jump 0"))
	expectUsed(t, block("/6; jump 3"))
	expectUsed(t, block("const 1; load x; read; call f; jump 0"))
	expectUsed(t, block("/2; add 0 1; mul 2 2; jump 1"))
}

// TestUsedHanded: P13.1, values that are handed, and used or not.
func TestUsedHanded(t *testing.T) {
	expectUsed(t, block("/1; ret 0"), 0)
	expectUsed(t, block("/3; ret 1"), 1)
	expectUsed(t, block("/6; jump 0: 0 2 5 2"), 0, 2, 5)
	expectUsed(t, block("/2; add 1 1; jump 0: 2"), 1, 2)
	expectUsed(t, block("/2; add 1 1; jump 0: 0"), 0)
	expectUsed(t, block("/3; write 2; jump 0"), 2)
}

// TestUsedEnds: P13.1, what each end uses: A of TIf and TRet, Args, Elses.
func TestUsedEnds(t *testing.T) {
	const many = "/2; const 1; const 2; load x; load y; "
	expectUsed(t, block(many+"ret 0"), 0)
	expectUsed(t, block(many+"ret 3"), 3)
	expectUsed(t, block(many+"ret 5"), 5)
	expectUsed(t, block(many+"jump 1"))
	expectUsed(t, block(many+"jump 1: 4"), 4)
	expectUsed(t, block(many+"jump 1: 5 2 1 0 2 5"), 0, 1, 2, 5)
	expectUsed(t, block(many+"if 0: 1: 2"), 0)
	expectUsed(t, block(many+"if 5: 1: 2"), 5)
	expectUsed(t, block(many+"if 5: 1 3: 2"), 3, 5)
	expectUsed(t, block(many+"if 5: 1: 2 3"), 3, 5)
	expectUsed(t, block(many+"if 2: 1 0 3: 3 4 1"), 0, 1, 2, 3, 4)
	expectUsed(t, block(many+"if 2: 5 2: 4 2"), 2)
}

// TestUsedDoes: P13.1, what does something uses its values, though nobody uses its own; what doesn't, and whose own isn't used, uses none.
func TestUsedDoes(t *testing.T) {
	for text, want := range map[string][]int{
		"store x 1":                  {1},
		"store x 3":                  {3},
		"write 0":                    {0},
		"write 2":                    {2},
		"call f 2":                   {2},
		"call f 3 1":                 {1, 3},
		"call f 1 1 1":               {1},
		"call f":                     nil,
		"read":                       nil,
		"load x":                     nil,
		"const 1":                    nil,
		"add 1 2":                    nil,
		"sub 2 1":                    nil,
		"mul 3 3":                    nil,
		"and 1 2":                    nil,
		"or 1 2":                     nil,
		"xor 1 2":                    nil,
		"shl 1 2":                    nil,
		"shr 1 2":                    nil,
		"less 1 2":                   nil,
		"eq 1 2":                     nil,
		"store x 1; eq 4 4; sub 2 3": {1},
	} {
		expectUsed(t, block("/1; const 5; const 6; read; "+text+"; jump 0"), want...)
	}
}

// TestUsedBy: P13.1, each Op whose value is used uses its own values: A and B, A, Args, none.
func TestUsedBy(t *testing.T) {
	for text, want := range map[string][]int{
		"add 1 2": {1, 2}, "sub 1 2": {1, 2}, "mul 1 2": {1, 2}, "and 1 2": {1, 2}, "or 1 2": {1, 2},
		"xor 1 2": {1, 2}, "shl 1 2": {1, 2}, "shr 1 2": {1, 2}, "less 1 2": {1, 2}, "eq 1 2": {1, 2},
		"add 3 3": {3}, "sub 0 3": {0, 3}, "mul 3 0": {0, 3},
		"store x 2": {2}, "write 2": {2}, "call f 2 0": {0, 2}, "call f": nil, "read": nil, "load x": nil, "const 9": nil,
	} {
		for _, end := range []string{"ret 4", "jump 0: 4", "if 4: 0: 1", "if 4: 0 4: 1 4"} {
			expectUsed(t, block("/1; const 5; const 6; read; "+text+"; "+end), append(want[:len(want):len(want)], 4)...)
		}
	}
}

// TestUsedByOthers: P13.1, values that are used by way of others alone, and such that only a value uses that isn't used.
func TestUsedByOthers(t *testing.T) {
	expectUsed(t, block("const 1; add 0 0; add 1 1; add 2 2; ret 3"), 0, 1, 2, 3)
	expectUsed(t, block("const 1; add 0 0; add 1 1; add 2 2; ret 2"), 0, 1, 2)
	expectUsed(t, block("const 1; add 0 0; add 1 1; add 2 2; ret 0"), 0)
	expectUsed(t, block("const 1; add 0 0; add 1 1; add 2 2; jump 0"))
	expectUsed(t, block("const 1; add 0 0; add 1 1; write 2; jump 0"), 0, 1, 2)
	expectUsed(t, block("const 1; add 0 0; write 1; add 1 1; jump 0"), 0, 1)
	expectUsed(t, block("/3; add 0 1; add 2 2; add 3 3; ret 5"), 0, 1, 3, 5)
	expectUsed(t, block("/3; add 0 1; add 2 2; add 3 3; ret 4"), 2, 4)
	expectUsed(t, block("/1; call f 0; call g 1; call h 2; jump 0"), 0, 1, 2)
	expectUsed(t, block("const 1; const 2; add 0 1; add 0 2; jump 0"))
	expectUsed(t, block("const 1; const 2; add 0 1; add 0 2; jump 0: 1"), 1)
	expectUsed(t, block("const 1; const 2; sub 1 1; store x 2; store y 3; jump 0"), 1, 2, 3)
	expectUsed(t, block("const 1; const 2; ret 1"), 1) // the document's example
}

// TestUsedLong: P13.1, a long row in which each value hangs on the one ahead of it.
func TestUsedLong(t *testing.T) {
	b := block("/1; jump 0: 5000")
	var want []int
	for at := range 5000 {
		b.Ins = append(b.Ins, api.Inst{Op: api.IAdd, A: at, B: at})
		want = append(want, at)
	}
	expectUsed(t, b, append(want, 5000)...)
	b.End.Args = nil
	expectUsed(t, b)
}

// TestUsedAny: P13.1, of blocks of all sorts, held against the chapter's words.
func TestUsedAny(t *testing.T) {
	met := [2]int{}
	for start := range 3000 {
		for _, b := range randomFrom(start).anyFunc().Blocks {
			var want []int
			for value := range b.Params + len(b.Ins) {
				if usedOf(b, value) {
					want = append(want, value)
				}
			}
			met[0] += len(want)
			met[1] += b.Params + len(b.Ins) - len(want)
			expectUsed(t, b, want...)
		}
	}
	if met[0] < 20000 || met[1] < 20000 {
		t.Errorf("used and not: %v", met)
	}
}
