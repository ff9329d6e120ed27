package fold_test

import (
	"fmt"
	"math"
	"slices"
	"testing"

	"marline/api"
	"marline/eval"
	"marline/fold"
	"marline/ir"
	"marline/sample"
)

// random gives numbers, and blocks and modules by them.
type random struct{ sample.Random }

// randomFrom is a row of them that is always the same.
func randomFrom(start int) *random {
	return &random{sample.Random(start)}
}

// Blocks and functions as texts: see package sample.
var block, function = sample.Block, sample.Func

// told is all that stands in a value, as a text; it's of no account whether a list without elements is nil.
func told(x any) string {
	return fmt.Sprintf("%+v", x)
}

// module is one of these functions, and of no globals.
func module(funcs ...api.Func) api.Module {
	return api.Module{Funcs: funcs}
}

// alone is a module of nothing but a block.
func alone(b api.Block) api.Module {
	return module(api.Func{Blocks: []api.Block{b}})
}

// expectKnown: Known answers this, twice, in memory of its own, and leaves the block as it was.
func expectKnown(t *testing.T, b api.Block, want ...bool) {
	t.Helper()
	before := told(b)
	for range 2 { // the second one shows what the first one kept
		got := fold.Known(b)
		if !slices.Equal(got, want) {
			t.Errorf("Known answers %v, not %v, of %.500s", got, want, before)
		}
		sample.Scribble(got, true)
	}
	if told(b) != before {
		t.Errorf("Known wrote into %.500s", before)
	}
}

// expectModule: Module answers this, twice, in memory of its own, and leaves the module as it was.
func expectModule(t *testing.T, m, want api.Module) {
	t.Helper()
	expectFolded(t, "Module", m, want, fold.Module)
}

// expectFunc: Func answers this, likewise.
func expectFunc(t *testing.T, f, want api.Func) {
	t.Helper()
	expectFolded(t, "Func", module(f), module(want), func(m api.Module) api.Module { return module(fold.Func(m.Funcs[0])) })
}

// expectBlock: Block answers this, likewise.
func expectBlock(t *testing.T, b, want api.Block) {
	t.Helper()
	expectFolded(t, "Block", alone(b), alone(want), func(m api.Module) api.Module { return alone(fold.Block(m.Funcs[0].Blocks[0])) })
}

// expectFolded: a call answers this module, as expectModule says.
func expectFolded(t *testing.T, why string, m, want api.Module, call func(api.Module) api.Module) {
	t.Helper()
	before := told(m)
	for range 2 {
		got := call(m)
		if !ir.Same(got, want) {
			t.Errorf("%s answers\n%.500s, not\n%.500s, of\n%.500s", why, told(got), told(want), before)
		}
		sample.ScribbleModule(got)
	}
	if told(m) != before {
		t.Errorf("%s wrote into %.500s", why, before)
	}
}

// expectSame: Same answers this, twice, and leaves the module as it was.
func expectSame(t *testing.T, m api.Module, name string, want uint64, is bool) {
	t.Helper()
	before := told(m)
	for range 2 {
		if k, known := fold.Same(m, name); k != want || known != is {
			t.Errorf("Same of %.50q answers %d, %v, not %d, %v, of %.500s", name, k, known, want, is, before)
		}
	}
	if told(m) != before {
		t.Errorf("Same wrote into %.500s", before)
	}
}

// worth is what a block's value is, and whether it is known, by the chapter's words: asked for anew, value by value.
func worth(b api.Block, number int) (uint64, bool) {
	params := max(b.Params, 0)
	if number < params || number-params >= len(b.Ins) {
		return 0, false
	}
	i := b.Ins[number-params]
	if i.Op == api.IConst {
		return i.K, true
	}
	reckoned := []int{api.IAdd, api.ISub, api.IMul, api.IAnd, api.IOr, api.IXor, api.IShl, api.IShr, api.ILess, api.IEq}
	if !slices.Contains(reckoned, i.Op) || i.A >= number || i.B >= number {
		return 0, false
	}
	x, is := worth(b, i.A)
	y, too := worth(b, i.B)
	if !is || !too {
		return 0, false
	}
	return eval.Reckon(i.Op, x, y), true
}

// folded is what Block answers, by the chapter's words.
func folded(b api.Block) api.Block {
	out := api.Block{Params: b.Params, Ins: slices.Clone(b.Ins), End: b.End}
	for at := range b.Ins {
		if k, is := worth(b, max(b.Params, 0)+at); is {
			out.Ins[at] = api.Inst{Op: api.IConst, K: k}
		}
	}
	if k, is := worth(b, b.End.A); is && b.End.Kind == api.TIf {
		out.End = api.Term{Kind: api.TJump, To: b.End.To, Args: b.End.Args}
		if k == 0 {
			out.End.To, out.End.Args = b.End.Else, b.End.Elses
		}
	}
	return out
}

// anyNumber is one of a value as a rule, or of none.
func (r *random) anyNumber(n int) int {
	far := []int{math.MinInt, math.MaxInt, -1, n, n + 1, 1 << 32}
	if r.Below(20) == 0 {
		return far[r.Below(len(far))]
	}
	return r.Below(max(n, 1))
}

// someBlock is a block, right or not, of which much is known; all fields hold something, as a rule.
func (r *random) someBlock() api.Block {
	b := api.Block{Params: []int{-1, 0, 0, 0, 0, 1, 3}[r.Below(7)]}
	for range r.Below(12) {
		n := max(b.Params, 0) + len(b.Ins)
		op := 1 + r.Below(11)
		if r.Below(8) == 0 {
			op = r.Below(20) - 1
		}
		if r.Below(3) == 0 {
			op = api.IConst
		}
		b.Ins = append(b.Ins, api.Inst{Op: op, A: r.anyNumber(n), B: r.anyNumber(n), K: uint64(r.Below(3)), Name: r.OneOf("", "f", "x"), Args: r.Some(9, r.Below(3))})
	}
	n := max(b.Params, 0) + len(b.Ins)
	b.End = api.Term{Kind: r.Below(5), A: r.anyNumber(n), To: r.Below(9), Args: r.Some(9, r.Below(3)), Else: r.Below(9), Elses: r.Some(9, r.Below(3))}
	if r.Below(2) == 0 {
		b.End.Kind = api.TIf
	}
	return b
}
