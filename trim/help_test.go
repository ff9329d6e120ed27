package trim_test

import (
	"fmt"
	"slices"
	"testing"

	"marline/api"
	"marline/ir"
	"marline/sample"
	"marline/trim"
)

// random gives numbers, and functions and modules by them.
type random struct{ sample.Random }

// randomFrom is a row of them that is always the same.
func randomFrom(start int) *random {
	return &random{sample.Random(start)}
}

// Blocks and functions as texts: see package sample.
var block, function = sample.Block, sample.Func

// told is all that stands in a value, as a text; it's of no account whether a list without elements is nil.
func told(x any) string {
	return fmt.Sprintf("%+v", x)
}

// module is one of these functions, and of no globals.
func module(funcs ...api.Func) api.Module {
	return api.Module{Funcs: funcs}
}

// alone is a module of nothing but a block.
func alone(b api.Block) api.Module {
	return module(api.Func{Blocks: []api.Block{b}})
}

// yes are the places at which a row tells true.
func yes(row []bool) []int {
	var out []int
	for at, is := range row {
		if is {
			out = append(out, at)
		}
	}
	return out
}

// expectRow: a call answers a row of so many, that is true at these places, twice, in memory of its own, and leaves the module as it was.
func expectRow(t *testing.T, why string, m api.Module, n int, want []int, call func() []bool) {
	t.Helper()
	before := told(m)
	for range 2 { // the second one shows what the first one kept
		got := call()
		if len(got) != n || !slices.Equal(yes(got), want) {
			t.Errorf("%s answers %v of %d, not %v of %d, of %.500s", why, yes(got), len(got), want, n, before)
		}
		sample.Scribble(got, true)
	}
	if told(m) != before {
		t.Errorf("%s wrote into %.500s", why, before)
	}
}

// expectUsed: Used answers that these values of a block, and no others, are used.
func expectUsed(t *testing.T, b api.Block, want ...int) {
	t.Helper()
	expectRow(t, "Used", alone(b), max(b.Params, 0)+len(b.Ins), want, func() []bool { return trim.Used(b) })
}

// expectReached: Reached answers that these blocks of a function, and no others, are reached.
func expectReached(t *testing.T, f api.Func, want ...int) {
	t.Helper()
	expectRow(t, "Reached", module(f), len(f.Blocks), want, func() []bool { return trim.Reached(f) })
}

// expectModule: Module answers this, twice, in memory of its own, and leaves the module as it was.
func expectModule(t *testing.T, m, want api.Module) {
	t.Helper()
	expectTrimmed(t, "Module", m, want, trim.Module)
}

// expectFunc: Func answers this, likewise.
func expectFunc(t *testing.T, f, want api.Func) {
	t.Helper()
	expectTrimmed(t, "Func", module(f), module(want), func(m api.Module) api.Module { return module(trim.Func(m.Funcs[0])) })
}

// expectBlock: Block answers this, likewise.
func expectBlock(t *testing.T, b, want api.Block) {
	t.Helper()
	expectTrimmed(t, "Block", alone(b), alone(want), func(m api.Module) api.Module { return alone(trim.Block(m.Funcs[0].Blocks[0])) })
}

// expectTrimmed: a call answers this module, as expectModule says.
func expectTrimmed(t *testing.T, why string, m, want api.Module, call func(api.Module) api.Module) {
	t.Helper()
	before := told(m)
	for range 2 {
		got := call(m)
		if !ir.Same(got, want) {
			t.Errorf("%s answers\n%.500s, not\n%.500s, of\n%.500s", why, told(got), told(want), before)
		}
		sample.ScribbleModule(got)
	}
	if told(m) != before {
		t.Errorf("%s wrote into %.500s", why, before)
	}
}

// rightFunc is a function by its blocks' texts that is right.
func rightFunc(t *testing.T, texts ...string) api.Func {
	t.Helper()
	f := function("f", texts...)
	if !ir.Func(f) {
		t.Errorf("%q: the test's function isn't right", texts)
	}
	return f
}

// size is how many blocks and instructions there are.
func size(l ...api.Func) (blocks, ins int) {
	for _, f := range l {
		blocks += len(f.Blocks)
		for _, b := range f.Blocks {
			ins += len(b.Ins)
		}
	}
	return blocks, ins
}
