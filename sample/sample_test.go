package sample_test

import (
	"fmt"
	"testing"

	"marline/api"
	"marline/eval"
	"marline/ir"
	"marline/sample"
)

// TestMod: what a text tells.
func TestMod(t *testing.T) {
	konst := func(k uint64) api.Inst { return api.Inst{Op: api.IConst, K: k} }
	ret := func(a int) api.Term { return api.Term{Kind: api.TRet, A: a} }
	want := api.Module{
		Funcs: []api.Func{
			{Name: "main", Bind: api.BStrong, Blocks: []api.Block{
				{Ins: []api.Inst{konst(7), {Op: api.ICall, Name: "f", Args: []int{0, 0}}, {Op: api.ILoad, Name: "x"}}, End: ret(0)},
				{Ins: []api.Inst{konst(0), {Op: api.ICall, Name: "g"}}, End: ret(0)},
				{Ins: []api.Inst{konst(0)}, End: ret(0)},
			}},
			{Name: "f", Bind: api.BLocal, Params: 2, Blocks: []api.Block{{Params: 2, Ins: []api.Inst{konst(0), {Op: api.IStore, A: 2, Name: "y"}}, End: ret(2)}}},
			{Name: "g", Bind: api.BWeak},
			{Name: "h", Bind: api.BStrong, Params: 6},
		},
		Globs: []api.Glob{{Name: "x", Bind: api.BWeak, Here: true, Init: 3}, {Name: "y", Bind: api.BStrong}},
	}
	text := "+main#7:f/2,x*;g; =f/2:y= ?g -h/6 ~x*#3 -y*"
	if got := sample.Mod(text); !ir.Same(got, want) || ir.Check(got) != api.OK {
		t.Errorf("Mod answers %+v, not %+v", got, want)
	}
	if got := sample.Words(want); got != text {
		t.Errorf("Words answers %q, not %q", got, text)
	}
	if l := sample.Mods(text + "| | =a"); len(l) != 3 || !ir.Same(l[0], want) || !ir.Same(l[1], api.Module{}) || sample.Words(l[2]) != "=a" {
		t.Errorf("Mods answers %+v", l)
	}
}

// TestWords: of what no text tells something is told all the same.
func TestWords(t *testing.T) {
	for _, m := range []api.Module{
		{Funcs: make([]api.Func, 1)},
		{Funcs: []api.Func{{Name: "f", Bind: 2, Blocks: make([]api.Block, 2)}}},
		{Funcs: []api.Func{{Name: "f", Bind: 9, Blocks: make([]api.Block, 2)}}},
		{Funcs: []api.Func{{Name: "f", Bind: 1}}},
		{Globs: make([]api.Glob, 1)},
	} {
		if got := sample.Words(m); got == "" || got[0] != '!' {
			t.Errorf("%+v: Words answers %q", m, got)
		}
	}
}

// TestWhole: random modules are whole, the same ones each time, and not all alike.
func TestWhole(t *testing.T) {
	met := map[string]int{}
	for start := range 500 {
		r, again := sample.Random(start), sample.Random(start)
		m := r.Whole()
		if e := eval.Whole(m); e != api.OK || !ir.Same(m, again.Whole()) {
			t.Errorf("row %d: a random module isn't whole, or another one: %d", start, e)
		}
		met[fmt.Sprint(m)]++
	}
	if len(met) < 490 {
		t.Errorf("only %d of 500 random modules differ", len(met))
	}
}

// TestScribble: all of a module is written over.
func TestScribble(t *testing.T) {
	m := sample.Mod("+main#7:f/2 =f/2 ~x*#3")
	m.Funcs[0].Blocks[0].End.Args, m.Funcs[0].Blocks[0].End.Elses = []int{1}, []int{2}
	blocks := m.Funcs[0].Blocks
	args, end := blocks[0].Ins[1].Args, blocks[0].End
	ins := blocks[0].Ins
	sample.ScribbleModule(m)
	if m.Funcs[1].Name != "scribbled" || m.Globs[0].Name != "scribbled" || blocks[0].Params != -9 || ins[1].Name != "scribbled" || args[1] != -9 || end.Args[0] != -9 || end.Elses[0] != -9 {
		t.Errorf("something is left of %+v", m)
	}
}
