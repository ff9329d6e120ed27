package ir_test

import (
	"slices"
	"testing"

	"marline/api"
	"marline/ir"
)

// TestRefs: P5.1, the names of a function's instructions, block by block, in order, as often as they do.
func TestRefs(t *testing.T) {
	load := func(name string) api.Inst { return api.Inst{Op: api.ILoad, Name: name} }
	store := func(name string) api.Inst { return api.Inst{Op: api.IStore, Name: name} }
	call := func(name string) api.Inst { return api.Inst{Op: api.ICall, Name: name} }
	blocks := func(l ...[]api.Inst) api.Func {
		f := api.Func{Name: "own", Bind: api.BStrong}
		for _, ins := range l {
			f.Blocks = append(f.Blocks, api.Block{Ins: ins, End: jump(0)})
		}
		return f
	}
	for _, c := range []struct {
		why  string
		f    api.Func
		want []string
	}{
		{"nothing", api.Func{}, nil},
		{"no blocks", api.Func{Name: "own", Bind: api.BStrong, Params: 3}, nil},
		{"no names", seven("own"), nil},
		{"an instruction of each Op", each(), []string{"here", "away", "seven", "each"}},
		{"a load", blocks([]api.Inst{load("x")}), []string{"x"}},
		{"a store", blocks([]api.Inst{store("x")}), []string{"x"}},
		{"a call", blocks([]api.Inst{call("x")}), []string{"x"}},
		{"not in order of names", blocks([]api.Inst{call("z"), load("a"), store("m")}), []string{"z", "a", "m"}},
		{"one name more than once", blocks([]api.Inst{call("z"), call("z"), konst(1), load("z")}), []string{"z", "z", "z"}},
		{"block by block", blocks([]api.Inst{call("d"), konst(1), call("c")}, nil, []api.Inst{konst(2)}, []api.Inst{load("d"), load("a")}), []string{"d", "c", "d", "a"}},
		{"blocks that nothing goes to", blocks(nil, []api.Inst{load("x")}), []string{"x"}},
		{"the function's own", blocks([]api.Inst{call("own")}), []string{"own"}},
		{"a Name where none is asked for", blocks([]api.Inst{{Op: api.IRead, Name: "x"}, {Op: 0, Name: "x"}, {Op: 17, Name: "x"}, load("y")}), []string{"y"}},
	} {
		before := told(c.f)
		got := ir.Refs(c.f)
		if !slices.Equal(got, c.want) {
			t.Errorf("%s: Refs answers %q, not %q", c.why, got, c.want)
		}
		if len(got) > 0 {
			got[0] = "changed"
		}
		if told(c.f) != before || !slices.Equal(ir.Refs(c.f), c.want) {
			t.Errorf("%s: Refs, or a change of its answer, changed the function", c.why)
		}
	}
}

// TestRefsAll: P5.1, of rows of functions.
func TestRefsAll(t *testing.T) {
	for start := range 300 {
		r := row(start)
		f := r.someFunc("f", []string{"a", "b", "c"})
		var want []string
		for _, b := range f.Blocks {
			for _, i := range b.Ins {
				if i.Name != "" {
					want = append(want, i.Name)
				}
			}
		}
		if got := ir.Refs(f); !slices.Equal(got, want) {
			t.Fatalf("row %d: Refs answers %q, not %q: %s", start, got, want, told(f))
		}
	}
}
