package sample_test

import (
	"fmt"
	"testing"

	"marline/api"
	"marline/eval"
	"marline/ir"
	"marline/sample"
)

// TestMod: what a text tells.
func TestMod(t *testing.T) {
	konst := func(k uint64) api.Inst { return api.Inst{Op: api.IConst, K: k} }
	ret := func(a int) api.Term { return api.Term{Kind: api.TRet, A: a} }
	want := api.Module{
		Funcs: []api.Func{
			{Name: "main", Bind: api.BStrong, Blocks: []api.Block{
				{Ins: []api.Inst{konst(7), {Op: api.ICall, Name: "f", Args: []int{0, 0}}, {Op: api.ILoad, Name: "x"}}, End: ret(0)},
				{Ins: []api.Inst{konst(0), {Op: api.ICall, Name: "g"}}, End: ret(0)},
				{Ins: []api.Inst{konst(0)}, End: ret(0)},
			}},
			{Name: "f", Bind: api.BLocal, Params: 2, Blocks: []api.Block{{Params: 2, Ins: []api.Inst{konst(0), {Op: api.IStore, A: 2, Name: "y"}}, End: ret(2)}}},
			{Name: "g", Bind: api.BWeak},
			{Name: "h", Bind: api.BStrong, Params: 6},
		},
		Globs: []api.Glob{{Name: "x", Bind: api.BWeak, Here: true, Init: 3}, {Name: "y", Bind: api.BStrong}},
	}
	text := "+main#7:f/2,x*;g; =f/2:y= ?g -h/6 ~x*#3 -y*"
	if got := sample.Mod(text); !ir.Same(got, want) || ir.Check(got) != api.OK {
		t.Errorf("Mod answers %+v, not %+v", got, want)
	}
	if got := sample.Words(want); got != text {
		t.Errorf("Words answers %q, not %q", got, text)
	}
	if l := sample.Mods(text + "| | =a"); len(l) != 3 || !ir.Same(l[0], want) || !ir.Same(l[1], api.Module{}) || sample.Words(l[2]) != "=a" {
		t.Errorf("Mods answers %+v", l)
	}
}

// TestBlock: what a text tells of a block.
func TestBlock(t *testing.T) {
	for text, want := range map[string]api.Block{
		"":               {},
		"ret 3":          {End: api.Term{Kind: api.TRet, A: 3}},
		"/2; ret 1":      {Params: 2, End: api.Term{Kind: api.TRet, A: 1}},
		"/-1; ret -1":    {Params: -1, End: api.Term{Kind: api.TRet, A: -1}},
		"jump 1":         {End: api.Term{Kind: api.TJump, To: 1}},
		"jump 2: 4 3":    {End: api.Term{Kind: api.TJump, To: 2, Args: []int{4, 3}}},
		"none":           {},
		"if 5: 1 0 2: 3": {End: api.Term{Kind: api.TIf, A: 5, To: 1, Args: []int{0, 2}, Else: 3}},
		"if 5: 1: 3 4 6": {End: api.Term{Kind: api.TIf, A: 5, To: 1, Else: 3, Elses: []int{4, 6}}},
		"const 18446744073709551615; add 1 2; eq 3 4; load x; store y 5; call f; call g 1 2 3; read; write 6; 17 7 8; 0; -1 9; ret 0": {
			Ins: []api.Inst{
				{Op: 1, K: 1<<64 - 1}, {Op: 2, A: 1, B: 2}, {Op: 11, A: 3, B: 4}, {Op: 12, Name: "x"}, {Op: 13, Name: "y", A: 5}, {Op: 14, Name: "f"},
				{Op: 14, Name: "g", Args: []int{1, 2, 3}}, {Op: 15}, {Op: 16, A: 6}, {Op: 17, A: 7, B: 8}, {}, {Op: -1, A: 9},
			},
			End: api.Term{Kind: api.TRet},
		},
		"sub 0 1; mul 0 1; and 0 1; or 0 1; xor 0 1; shl 0 1; shr 0 1; less 0 1; jump 0": {
			Ins: []api.Inst{{Op: 3, B: 1}, {Op: 4, B: 1}, {Op: 5, B: 1}, {Op: 6, B: 1}, {Op: 7, B: 1}, {Op: 8, B: 1}, {Op: 9, B: 1}, {Op: 10, B: 1}},
			End: api.Term{Kind: api.TJump},
		},
	} {
		of := func(b api.Block) api.Module { return api.Module{Funcs: []api.Func{{Blocks: []api.Block{b}}}} }
		if got := sample.Block(text); !ir.Same(of(got), of(want)) {
			t.Errorf("Block %q answers %+v, not %+v", text, got, want)
		}
	}
	f := sample.Func("f", "/3; jump 1: 0", "/1; ret 0")
	if f.Name != "f" || f.Params != 3 || len(f.Blocks) != 2 || f.Blocks[1].Params != 1 || !ir.Func(f) {
		t.Errorf("Func answers %+v", f)
	}
	if f := sample.Func("away"); f.Params != 0 || !ir.Func(f) {
		t.Errorf("Func without blocks answers %+v", f)
	}
}

// TestRuns: some of a module's runs end, some don't; of another module's one differs, at least.
func TestRuns(t *testing.T) {
	met := map[api.Errno]int{}
	l := sample.Runs(sample.Mod("+main:f =f#3"))
	for _, x := range l {
		met[x.Errno]++
		if got, e := eval.Run(sample.Mod("+main:f =f#3"), x.In, x.Fuel, x.Deep); got != x.Trace || e != x.Errno {
			t.Errorf("%+v isn't the run %+v, %d", x, got, e)
		}
	}
	if met[api.OK] == 0 || met[api.ErrFuel] == 0 || met[api.ErrDeep] == 0 {
		t.Errorf("the runs come to %v", met)
	}
	differ := 0
	for at, x := range sample.Runs(sample.Mod("+main#1:f =f#3")) {
		if x != l[at] {
			differ++
		}
	}
	if differ == 0 {
		t.Error("modules that give back 0 and 1 run alike")
	}
}

// TestWords: of what no text tells something is told all the same.
func TestWords(t *testing.T) {
	for _, m := range []api.Module{
		{Funcs: make([]api.Func, 1)},
		{Funcs: []api.Func{{Name: "f", Bind: 2, Blocks: make([]api.Block, 2)}}},
		{Funcs: []api.Func{{Name: "f", Bind: 9, Blocks: make([]api.Block, 2)}}},
		{Funcs: []api.Func{{Name: "f", Bind: 1}}},
		{Globs: make([]api.Glob, 1)},
	} {
		if got := sample.Words(m); got == "" || got[0] != '!' {
			t.Errorf("%+v: Words answers %q", m, got)
		}
	}
}

// TestWhole: random modules are whole, the same ones each time, and not all alike.
func TestWhole(t *testing.T) {
	met := map[string]int{}
	for start := range 500 {
		r, again := sample.Random(start), sample.Random(start)
		m := r.Whole()
		if e := eval.Whole(m); e != api.OK || !ir.Same(m, again.Whole()) {
			t.Errorf("row %d: a random module isn't whole, or another one: %d", start, e)
		}
		met[fmt.Sprint(m)]++
	}
	if len(met) < 490 {
		t.Errorf("only %d of 500 random modules differ", len(met))
	}
}

// TestScribble: all of a module is written over.
func TestScribble(t *testing.T) {
	m := sample.Mod("+main#7:f/2 =f/2 ~x*#3")
	m.Funcs[0].Blocks[0].End.Args, m.Funcs[0].Blocks[0].End.Elses = []int{1}, []int{2}
	blocks := m.Funcs[0].Blocks
	args, end := blocks[0].Ins[1].Args, blocks[0].End
	ins := blocks[0].Ins
	sample.ScribbleModule(m)
	if m.Funcs[1].Name != "scribbled" || m.Globs[0].Name != "scribbled" || blocks[0].Params != -9 || ins[1].Name != "scribbled" || args[1] != -9 || end.Args[0] != -9 || end.Elses[0] != -9 {
		t.Errorf("something is left of %+v", m)
	}
}
