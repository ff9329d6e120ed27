package own_test

import (
	"fmt"
	"testing"

	"marline/api"
	"marline/ir"
	"marline/own"
	"marline/sample"
)

// full is a module in which each field holds something, and each list has two of its kind, or more.
func full() api.Module {
	b := api.Block{Params: 3, Ins: []api.Inst{{Op: 14, A: 1, B: 2, K: 3, Name: "f", Args: []int{4, 5}}, {Op: 9, Args: []int{1, 2, 3}}}, End: api.Term{Kind: 2, A: 1, To: 1, Args: []int{1, 2}, Else: 1, Elses: []int{2, 3}}}
	c := api.Block{Params: 9, Ins: []api.Inst{{K: 1 << 63}, {Name: "g"}}, End: api.Term{Args: []int{7}, Elses: []int{8}}}
	return api.Module{
		Funcs: []api.Func{{Name: "f", Bind: 1, Params: 3, Blocks: []api.Block{b, c}}, {Name: "h", Bind: -1, Params: -2}},
		Globs: []api.Glob{{Name: "g", Bind: 2, Here: true, Init: 1<<64 - 1}, {}},
	}
}

// modules are that one, some of nothing, and random ones.
func modules() []api.Module {
	l := []api.Module{full(), {}, {Funcs: []api.Func{}, Globs: []api.Glob{}}, {Funcs: make([]api.Func, 2)}, {Funcs: []api.Func{{Blocks: make([]api.Block, 3)}}}}
	for start := range 200 {
		r := sample.Random(start)
		l = append(l, r.Whole())
	}
	return l
}

// expectOwn: a copy of something in a module is the same as it was, and stays so whatever becomes of the module.
func expectOwn(t *testing.T, why string, m, got, want api.Module) {
	t.Helper()
	if !ir.Same(got, want) {
		t.Errorf("%s: the copy is %+v, not %+v", why, got, want)
	}
	before := fmt.Sprintf("%+v", got)
	sample.ScribbleModule(m)
	if now := fmt.Sprintf("%+v", got); now != before {
		t.Errorf("%s: the copy was %s, and is %s", why, before, now)
	}
}

// TestModule: a copy of a module is the same, in other memory.
func TestModule(t *testing.T) {
	same := modules()
	for at, m := range modules() {
		expectOwn(t, fmt.Sprint("module ", at), m, own.Module(m), same[at])
	}
}

// TestFunc: likewise of a function.
func TestFunc(t *testing.T) {
	same := modules()
	for at, m := range modules() {
		for k, f := range m.Funcs {
			expectOwn(t, fmt.Sprint("module ", at, ", function ", k), api.Module{Funcs: []api.Func{f}}, api.Module{Funcs: []api.Func{own.Func(f)}}, api.Module{Funcs: same[at].Funcs[k : k+1]})
		}
	}
}

// TestBlock: likewise of a block.
func TestBlock(t *testing.T) {
	same := modules()
	of := func(b api.Block) api.Module {
		return api.Module{Funcs: []api.Func{{Blocks: []api.Block{b}}}}
	}
	for at, m := range modules() {
		for k, f := range m.Funcs {
			for n, b := range f.Blocks {
				expectOwn(t, fmt.Sprint("module ", at, ", function ", k, ", block ", n), of(b), of(own.Block(b)), of(same[at].Funcs[k].Blocks[n]))
			}
		}
	}
}

// TestTwo: two copies share nothing either.
func TestTwo(t *testing.T) {
	m := full()
	expectOwn(t, "two copies", own.Module(m), own.Module(m), m)
	expectOwn(t, "the module itself", own.Module(m), m, full())
}
