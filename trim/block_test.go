package trim_test

import (
	"fmt"
	"slices"
	"testing"

	"marline/api"
	"marline/ir"
	"marline/sample"
	"marline/trim"
)

// TestBlockNothing: P13.1, blocks of which nothing is left out.
func TestBlockNothing(t *testing.T) {
	expectBlock(t, api.Block{}, api.Block{})
	for _, text := range []string{
		"jump 0",
		"/6; jump 0",
		"/3; ret 1",
		"const 7; ret 0",
		"/2; add 0 1; sub 2 1; if 3: 1 0: 2 1",
		"/1; const 5; call f 0 1; store x 2; write 1; eq 3 4; jump 1: 5",
		"load x; load y; less 0 1; if 2: 1: 2 1 0",
		"const 1; const 2; const 3; const 4; jump 1: 3 2 1 0",
	} {
		expectBlock(t, block(text), block(text))
	}
}

// TestBlockAll: P13.1, blocks of which all is left out.
func TestBlockAll(t *testing.T) {
	for text, want := range map[string]string{
		"const 1; jump 0": "jump 0",
		"load x; jump 2":  "jump 2",
		"const 1; const 2; add 0 1; mul 2 2; jump 1":       "jump 1",
		"/2; add 0 1; sub 2 2; load x; eq 4 3; ret 1":      "/2; ret 1",
		"/3; const 1; if 2: 1 0: 0 1 1":                    "/3; if 2: 1 0: 0 1 1",
		"/1; xor 0 0; and 1 1; or 2 2; shl 3 3; jump 0: 0": "/1; jump 0: 0",
		"/1; shr 0 0; less 1 1; eq 2 2; jump 0: 0":         "/1; jump 0: 0",
	} {
		expectBlock(t, block(text), block(want))
	}
}

// TestBlockNumbers: P13.1, what uses values behind what is left out uses them by their new numbers.
func TestBlockNumbers(t *testing.T) {
	for text, want := range map[string]string{
		"const 1; const 2; ret 1": "const 2; ret 0", // the document's example
		"const 1; const 2; ret 0": "const 1; ret 0",
		// the ends: A, Args, Elses
		"const 1; const 2; const 3; if 2: 4: 5":                       "const 3; if 0: 4: 5",
		"const 1; const 2; const 3; if 2: 4 1: 5":                     "const 2; const 3; if 1: 4 0: 5",
		"const 1; const 2; const 3; if 2: 4: 5 1 2 1":                 "const 2; const 3; if 1: 4: 5 0 1 0",
		"const 1; const 2; const 3; jump 4: 2":                        "const 3; jump 4: 0",
		"const 1; const 2; const 3; jump 4: 2 0 2":                    "const 1; const 3; jump 4: 1 0 1",
		"/2; const 1; const 2; const 3; ret 4":                        "/2; const 3; ret 2",
		"/2; const 1; const 2; const 3; ret 0":                        "/2; ret 0",
		"/2; const 1; const 2; const 3; jump 1: 0 3 1":                "/2; const 2; jump 1: 0 2 1",
		"/2; const 1; read; const 2; const 3; if 1: 4 3 0: 5 1 5":     "/2; read; const 3; if 1: 4 2 0: 5 1 3",
		"/3; const 1; const 2; const 3; if 3: 1 3 3 3: 2 5 5 5 0 1 2": "/3; const 1; const 3; if 3: 1 3 3 3: 2 4 4 4 0 1 2",
		// the instructions: A, B, Args
		"const 1; const 2; const 3; sub 1 2; ret 3":                     "const 2; const 3; sub 0 1; ret 2",
		"const 1; const 2; const 3; sub 2 1; ret 3":                     "const 2; const 3; sub 1 0; ret 2",
		"const 1; const 2; const 3; sub 0 2; ret 3":                     "const 1; const 3; sub 0 1; ret 2",
		"const 1; const 2; store x 1; jump 0":                           "const 2; store x 0; jump 0",
		"const 1; const 2; write 1; jump 0":                             "const 2; write 0; jump 0",
		"const 1; const 2; const 3; call f 2 1 2; ret 3":                "const 2; const 3; call f 1 0 1; ret 2",
		"/1; load x; const 2; call f 0 2; load y; call g 3 0 2; jump 0": "/1; const 2; call f 0 1; call g 2 0 1; jump 0",
		"/2; load x; add 1 0; sub 3 1; write 4; jump 0: 1":              "/2; add 1 0; sub 2 1; write 3; jump 0: 1",
		// in several places
		"const 1; const 2; const 3; const 4; const 5; sub 1 3; const 6; sub 5 1; ret 7": "const 2; const 4; sub 0 1; sub 2 0; ret 3",
		"load x; read; load y; read; load z; sub 1 3; load w; jump 0: 5 3 1":            "read; read; sub 0 1; jump 0: 2 1 0",
	} {
		expectBlock(t, block(text), block(want))
	}
}

// TestBlockDoes: P13.1, what does something stays, though its value isn't used.
func TestBlockDoes(t *testing.T) {
	for text, want := range map[string]string{
		"read; jump 0":          "read; jump 0",
		"call f; jump 0":        "call f; jump 0",
		"/1; store x 0; jump 0": "/1; store x 0; jump 0",
		"/1; write 0; jump 0":   "/1; write 0; jump 0",
		"/1; load x; read; load x; write 0; load x; jump 0":     "/1; read; write 0; jump 0",
		"read; add 0 0; read; call f 0; add 2 3; call f; ret 2": "read; read; call f 0; call f; ret 1",
		"call f; write 0; store x 0; call g 1 2; jump 0":        "call f; write 0; store x 0; call g 1 2; jump 0",
		"const 4; write 0; mul 1 1; store x 0; jump 0: 1":       "const 4; write 0; store x 0; jump 0: 1",
	} {
		expectBlock(t, block(text), block(want))
	}
}

// TestBlockOps: P13.1, of each Op: it stays if its value is used; if not, it stays if it does something.
func TestBlockOps(t *testing.T) {
	for op := api.IConst; op <= api.IWrite; op++ {
		var i api.Inst
		for r := randomFrom(op); i.Op != op; {
			i = r.anyInst(3)
		}
		b := api.Block{Params: 3, Ins: []api.Inst{i}, End: api.Term{Kind: api.TRet, A: 3}}
		expectBlock(t, b, b)
		b.End.A = 2
		want := b
		if !doesOf(i) {
			want.Ins = nil
		}
		expectBlock(t, b, want)
	}
}

// TestBlockZeros: P13.1, what isn't a value keeps its 0, though the value 0 is left out, or others have become it.
func TestBlockZeros(t *testing.T) {
	b := block("load x; load y; read; const 3; store x 3; write 3; call f 3; load z; add 7 3; jump 0: 8 1")
	want := block("load y; read; const 3; store x 2; write 2; call f 2; load z; add 6 2; jump 0: 7 0")
	expectBlock(t, b, want)
	expectBlock(t, block("const 1; jump 0"), block("jump 0"))
	expectBlock(t, block("const 1; const 2; jump 0: 1"), block("const 2; jump 0: 0"))
}

// TestBlockSeveral: P13.1, every choice of which of eight instructions' values are used.
func TestBlockSeveral(t *testing.T) {
	for choice := range 1 << 8 {
		b, want := block("/2; jump 0: 1"), block("/2; jump 0: 1")
		for at := range 8 {
			b.Ins = append(b.Ins, api.Inst{Op: api.IConst, K: uint64(at)})
			if choice>>at&1 == 1 {
				b.End.Elses = append(b.End.Elses, 2+at)
				want.End.Elses = append(want.End.Elses, 2+len(want.Ins))
				want.Ins = append(want.Ins, api.Inst{Op: api.IConst, K: uint64(at)})
			}
		}
		b.End.Kind, want.End.Kind = api.TIf, api.TIf
		expectBlock(t, b, want)
	}
}

// TestBlockAny: P13.1, of blocks of all sorts, held against the chapter's words.
func TestBlockAny(t *testing.T) {
	met := map[string]int{}
	for start := range 3000 {
		for _, b := range randomFrom(start).anyFunc().Blocks {
			want := blockOf(b)
			met[fmt.Sprint("all ", len(b.Ins) > 0 && len(want.Ins) == 0)]++
			met[fmt.Sprint("some ", len(want.Ins) < len(b.Ins) && len(want.Ins) > 0)]++
			expectBlock(t, b, want)
		}
	}
	for _, why := range []string{"all true", "all false", "some true", "some false"} {
		if met[why] < 1000 {
			t.Errorf("blocks of which is left out: %v", met)
		}
	}
}

// TestBlockApart: R3, no two lists of what is answered share memory, though those of the argument do.
func TestBlockApart(t *testing.T) {
	values := []int{0, 0, 0}
	i := api.Inst{Op: api.ICall, Name: "f", Args: values}
	b := api.Block{Params: 1, Ins: []api.Inst{i, i}, End: api.Term{Kind: api.TIf, Args: values, Elses: values[:2]}}
	out := trim.Module(module(api.Func{Name: "f", Bind: 1, Params: 1, Blocks: []api.Block{b, b}}, api.Func{Blocks: []api.Block{b, b}}))
	for _, f := range out.Funcs {
		for _, k := range f.Blocks {
			for _, l := range [][]int{k.Ins[0].Args, k.Ins[1].Args, k.End.Args, k.End.Elses} {
				if slices.ContainsFunc(l, func(v int) bool { return v != 0 }) {
					t.Errorf("what was written into another list stands in %v", l)
				}
				sample.Scribble(l, 7)
			}
		}
	}
	if slices.Max(values) != 0 {
		t.Error("what was written into an answer stands in the argument")
	}
}

// TestBlockOwn: R3, whatever becomes of a block, what was made of it stays as it is.
func TestBlockOwn(t *testing.T) {
	for start := range 300 {
		l, again := randomFrom(start).anyFunc().Blocks, randomFrom(start).anyFunc().Blocks
		for at, b := range l {
			out := trim.Block(b)
			sample.ScribbleBlock(b)
			if want := blockOf(again[at]); !ir.Same(alone(out), alone(want)) {
				t.Errorf("row %d: it was %.300s, and is %.300s", start, told(want), told(out))
			}
		}
	}
}
