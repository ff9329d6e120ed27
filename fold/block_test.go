package fold_test

import (
	"fmt"
	"math"
	"slices"
	"testing"

	"marline/api"
	"marline/fold"
	"marline/ir"
	"marline/sample"
)

// TestBlock: P12.1, what is known is an IConst of what it is, by hand.
func TestBlock(t *testing.T) {
	for text, want := range map[string]string{
		"const 2; const 3; mul 0 1; ret 2":                                      "const 2; const 3; const 6; ret 2", // the document's example
		"const 7; ret 0":                                                        "const 7; ret 0",
		"/1; const 5; sub 1 1; add 0 1; eq 2 1; ret 4":                          "/1; const 5; const 0; add 0 1; const 0; ret 4",
		"/1; const 5; add 0 1; ret 2":                                           "/1; const 5; add 0 1; ret 2",
		"read; const 5; add 1 1; add 0 2; mul 2 1; ret 0":                       "read; const 5; const 10; add 0 2; const 50; ret 0",
		"const 3; store x 0; call f 0; add 0 0; write 3; load x; ret 3":         "const 3; store x 0; call f 0; const 6; write 3; load x; ret 3",
		"const 3; const 5; sub 0 1; shr 2 1; add 3 3; ret 4":                    "const 3; const 5; const 18446744073709551614; const 576460752303423487; const 1152921504606846974; ret 4",
		"const 1; add 0 0; add 1 1; add 2 2; mul 3 3; ret 4":                    "const 1; const 2; const 4; const 8; const 64; ret 4",
		"const 12; const 10; and 0 1; or 0 1; xor 0 1; ret 4":                   "const 12; const 10; const 8; const 14; const 6; ret 4",
		"const 3; const 66; shl 0 1; shr 1 0; ret 4":                            "const 3; const 66; const 12; const 8; ret 4",
		"const 3; const 4; less 0 1; less 1 0; less 0 0; eq 0 1; eq 0 0; ret 4": "const 3; const 4; const 1; const 0; const 0; const 0; const 1; ret 4",
	} {
		expectBlock(t, block(text), block(want))
	}
}

// TestBlockNothing: P12.1, blocks of which nothing is known stay as they are, in each field, right or not.
func TestBlockNothing(t *testing.T) {
	expectBlock(t, api.Block{}, api.Block{})
	for _, text := range []string{
		"ret 0",
		"/1; ret 0",
		"/-3; ret 0",
		"/2; add 0 1; sub 2 1; if 3: 1 0: 2 1",
		"read; load x; call f 0 1; store x 2; write 0; eq 3 4; jump 1: 5",
		"/1; add 1 1; add 2 2; add -1 -1; ret 1",
	} {
		expectBlock(t, block(text), block(text))
	}
	for why, i := range unknown() {
		i.K, i.Args = 7, []int{3, 0, 5}
		k := block("/1; read; read; read; if 3: 1 0: 2 1")
		k.Ins[2] = i
		t.Run(why, func(t *testing.T) { expectBlock(t, k, k) })
	}
	for op := api.IAdd; op <= api.IEq; op++ {
		for _, i := range []api.Inst{{Op: op, A: 0, B: 1}, {Op: op, A: 1, B: 0}, {Op: op, A: 1, B: 3}, {Op: op, A: 2, B: 1}, {Op: op, A: -1, B: 1}} {
			i.K, i.Name, i.Args = 7, "name", []int{3, 0, 5}
			k := block("/1; const 7; 0; const 8; ret 0")
			k.Ins[1] = i
			expectBlock(t, k, k)
		}
	}
}

// TestBlockFields: P12.1, of what is known each field but Op and K is its zero.
func TestBlockFields(t *testing.T) {
	for at, i := range []api.Inst{
		{Op: api.IConst, K: 9, A: 1},
		{Op: api.IConst, K: 9, B: -1},
		{Op: api.IConst, K: 9, Name: "x"},
		{Op: api.IConst, K: 9, Args: []int{0}},
		{Op: api.IConst, K: 9, A: 1, B: 2, Name: "x", Args: []int{0, 1}},
		{Op: api.IAdd, A: 2, B: 1},
		{Op: api.IAdd, A: 2, B: 1, K: 77, Name: "x", Args: []int{0, 1}},
	} {
		k := block("/1; const 4; const 5; 0; write 3; ret 3")
		k.Ins[2] = i
		t.Run(fmt.Sprint(at), func(t *testing.T) { expectBlock(t, k, block("/1; const 4; const 5; const 9; write 3; ret 3")) })
	}
}

// TestBlockMany: P12.1, however much a block is handed: of what it is handed nothing stands anywhere.
func TestBlockMany(t *testing.T) {
	for _, params := range []int{1 << 40, 1 << 62, math.MaxInt - 2, math.MaxInt - 1, math.MaxInt} {
		b := api.Block{Params: params, Ins: []api.Inst{{Op: api.IConst, K: 1, A: 3}, {Op: api.IAdd, A: params, B: params, K: 3}, {Op: api.IAdd, A: params - 1, B: params}, {Op: api.IAdd, B: params}}, End: api.Term{Kind: api.TIf, A: params, To: 1, Else: 2}}
		want := api.Block{Params: params, Ins: slices.Clone(b.Ins), End: api.Term{Kind: api.TJump, To: 1}}
		want.Ins[0], want.Ins[1] = api.Inst{Op: api.IConst, K: 1}, api.Inst{Op: api.IConst, K: 2}
		expectBlock(t, b, want)
		b.End.A, want.End = params-1, b.End
		want.End.A = params - 1
		expectBlock(t, b, want)
		expectSame(t, alone(api.Block{Params: params, Ins: b.Ins, End: api.Term{Kind: api.TRet, A: params}}), "", 1, true)
	}
}

// TestBlockLess: P12.1, Params below 0: what is known is told by the numbers from 0 on.
func TestBlockLess(t *testing.T) {
	for _, params := range []int{-1, -2, math.MinInt} {
		b, want := block("const 5; add 0 0; add -1 1; if 1: 1 0: 2 1"), block("const 5; const 10; add -1 1; jump 1: 0")
		b.Params, want.Params = params, params
		expectBlock(t, b, want)
	}
}

// TestEnds: P12.1, a TIf of a value that is known is a TJump to where it goes, and nothing else.
func TestEnds(t *testing.T) {
	for _, one := range []string{"const 1", "const 2", "const 18446744073709551615", "const 9223372036854775808", "const 4294967296", "const 256"} {
		expectBlock(t, block("/2; "+one+"; if 2: 7 0 1: 3 1 2 0"), block("/2; "+one+"; jump 7: 0 1"))
		expectBlock(t, block("/2; "+one+"; if 2: 7: 3 1"), block("/2; "+one+"; jump 7"))
	}
	expectBlock(t, block("/2; const 0; if 2: 7 0 1: 3 1 2 0"), block("/2; const 0; jump 3: 1 2 0"))
	expectBlock(t, block("/2; const 0; if 2: 7 0: 3"), block("/2; const 0; jump 3"))
	expectBlock(t, block("const 0; if 0: -1: -2"), block("const 0; jump -2"))
	expectBlock(t, block("const 4; const 4; sub 1 0; if 2: 0 0: 0 1"), block("const 4; const 4; const 0; jump 0: 1"))
	expectBlock(t, block("const 4; const 4; eq 1 0; if 2: 0 0: 0 1"), block("const 4; const 4; const 1; jump 0: 0"))
}

// TestEndsUnknown: P12.1, a TIf of a value that isn't known, or whose number isn't there, stays as it is.
func TestEndsUnknown(t *testing.T) {
	for _, a := range []int{0, 1, 4, 5, -1, -3, 6, 7, 100, 2 + 1<<32, math.MaxInt, math.MinInt, math.MinInt + 2} {
		for _, k := range []uint64{0, 1} {
			b := block("/2; const 1; const 0; read; add 2 4; if 0: 7 0 1: 3 1 2 0")
			b.Ins[0].K, b.End.A = k, a
			expectBlock(t, b, b)
		}
	}
	expectBlock(t, block("if 0: 1: 2"), block("if 0: 1: 2"))
	expectBlock(t, block("/1; if 0: 1: 2"), block("/1; if 0: 1: 2"))
}

// TestEndsOther: P12.1, the other ends stay as they are, in each field, though their value is known.
func TestEndsOther(t *testing.T) {
	for _, kind := range []int{api.TJump, api.TRet, 0, 4, -2, 2 + 1<<32, math.MaxInt, math.MinInt} {
		for _, k := range []uint64{0, 1} {
			b := block("const 1; add 0 0; if 0: 1 0: 2 1 0")
			b.Ins[0].K, b.End.Kind = k, kind
			want := b
			want.Ins = []api.Inst{{Op: api.IConst, K: k}, {Op: api.IConst, K: 2 * k}}
			expectBlock(t, b, want)
		}
	}
}

// TestBlockAny: P12.1, of blocks of all sorts, held against the chapter's words.
func TestBlockAny(t *testing.T) {
	jumps, stay := 0, 0
	for start := range 20000 {
		r := randomFrom(start)
		b := r.someBlock()
		want := folded(b)
		if b.End.Kind == api.TIf && want.End.Kind == api.TJump {
			jumps++
		} else if b.End.Kind == api.TIf {
			stay++
		}
		expectBlock(t, b, want)
	}
	if jumps < 2000 || stay < 2000 {
		t.Errorf("%d TIfs are jumps, %d aren't", jumps, stay)
	}
}

// TestBlockOwn: R3, whatever becomes of a block, what was made of it stays as it is.
func TestBlockOwn(t *testing.T) {
	for start := range 500 {
		r, again := randomFrom(start), randomFrom(start)
		b := r.someBlock()
		out := fold.Block(b)
		sample.ScribbleBlock(b)
		if want := folded(again.someBlock()); !ir.Same(alone(out), alone(want)) {
			t.Errorf("row %d: it was %.300s, and is %.300s", start, told(want), told(out))
		}
	}
}

// TestBlockApart: R3, no two lists of what is answered share memory, though those of the argument do.
func TestBlockApart(t *testing.T) {
	values := []int{0, 0, 0}
	i := api.Inst{Op: api.ICall, Name: "f", Args: values}
	b := api.Block{Params: 1, Ins: []api.Inst{i, i}, End: api.Term{Kind: api.TIf, Args: values, Elses: values[:2]}}
	m := module(api.Func{Blocks: []api.Block{b, b}})
	out := fold.Module(m)
	one := out.Funcs[0].Blocks[0]
	for _, l := range [][]int{one.Ins[0].Args, one.Ins[1].Args, one.End.Args, one.End.Elses, out.Funcs[0].Blocks[1].End.Args} {
		if slices.ContainsFunc(l, func(v int) bool { return v != 0 }) {
			t.Errorf("what was written into another list stands in %v", l)
		}
		sample.Scribble(l, 7)
	}
	if slices.Max(values) != 0 {
		t.Error("what was written into an answer stands in the argument")
	}
}
