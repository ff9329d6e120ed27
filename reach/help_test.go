package reach_test

import (
	"fmt"
	"slices"
	"strings"
	"testing"

	"marline/api"
	"marline/ir"
	"marline/reach"
	"marline/sample"
)

// random gives numbers, and modules by them.
type random struct{ sample.Random }

// randomFrom is a row of them that is always the same.
func randomFrom(start int) *random {
	return &random{sample.Random(start)}
}

// Modules as texts: see package sample.
var mod, words = sample.Mod, sample.Words

// told is all that stands in a module, as a text; it's of no account whether a list without elements is nil.
func told(m api.Module) string {
	return fmt.Sprintf("%+v", m)
}

// expectList: a call answers this list, twice, in memory of its own, and leaves the module as it was.
func expectList(t *testing.T, why string, m api.Module, want []string, call func() []string) {
	t.Helper()
	before := told(m)
	for range 2 { // the second one shows what the first one kept
		got := call()
		if !slices.Equal(got, want) {
			t.Errorf("%s answers %.300q, not %.300q, of %.500s", why, got, want, words(m))
		}
		sample.Scribble(got, "scribbled")
	}
	if told(m) != before {
		t.Errorf("%s wrote into %.500s", why, before)
	}
}

// expectRoots: Roots answers these names.
func expectRoots(t *testing.T, m api.Module, want []string) {
	t.Helper()
	expectList(t, "Roots", m, want, func() []string { return reach.Roots(m) })
}

// expectFrom: From answers these names, and leaves the roots as they were.
func expectFrom(t *testing.T, m api.Module, roots, want []string) {
	t.Helper()
	before := slices.Clone(roots)
	expectList(t, fmt.Sprintf("From %.300q", roots), m, want, func() []string { return reach.From(m, roots) })
	if !slices.Equal(roots, before) {
		t.Errorf("From wrote %.300q into the roots, that were %.300q", roots, before)
	}
}

// expectCalls: Calls answers these names.
func expectCalls(t *testing.T, m api.Module, name string, want []string) {
	t.Helper()
	expectList(t, fmt.Sprintf("Calls of %.100q", name), m, want, func() []string { return reach.Calls(m, name) })
}

// expectDrop: Drop answers this module, twice, in memory of its own, and leaves the argument as it was.
func expectDrop(t *testing.T, m, want api.Module) {
	t.Helper()
	before := told(m)
	for range 2 {
		got := reach.Drop(m)
		if !ir.Same(got, want) {
			t.Errorf("Drop answers\n%.500s, not\n%.500s, of\n%.500s", words(got), words(want), before)
		}
		sample.ScribbleModule(got)
	}
	if told(m) != before {
		t.Errorf("Drop wrote into %.500s", before)
	}
}

// expectDeepest: Deepest answers these names.
func expectDeepest(t *testing.T, m api.Module, want []string) {
	t.Helper()
	expectList(t, "Deepest", m, want, func() []string { return reach.Deepest(m) })
}

// right is a module by its text that is right.
func right(t *testing.T, text string) api.Module {
	t.Helper()
	m := mod(text)
	if e := ir.Check(m); e != api.OK {
		t.Errorf("%s: the test's module isn't right: %d", text, e)
	}
	return m
}

// line is a function of one block of these instructions.
func line(name string, bind int, ins ...api.Inst) api.Func {
	return api.Func{Name: name, Bind: bind, Blocks: []api.Block{{Ins: ins, End: api.Term{Kind: api.TRet}}}}
}

// pool are the names of someModule: some of them are no item's, as a rule.
var pool = []string{"main", "a", "b", "c", "d", "e", "X", "Y", ""}

// ops are those of someModule.
var ops = []int{14, 12, 14, 13, 14, 1, 14, 16}

// someModule is a module of a few names, right or not: names stand in it that two items have, or none.
func (r *random) someModule() api.Module {
	var m api.Module
	for range r.Below(10) {
		f := api.Func{Name: r.OneOf(pool...), Bind: r.Below(5), Params: r.Below(3)}
		for range r.Below(4) {
			b := api.Block{Params: r.Below(3), End: api.Term{Kind: r.Below(4), Args: r.Some(9, r.Below(3))}}
			for range r.Below(4) {
				b.Ins = append(b.Ins, api.Inst{Op: ops[r.Below(len(ops))], Name: r.OneOf(pool...), Args: r.Some(9, r.Below(3))})
			}
			f.Blocks = append(f.Blocks, b)
		}
		m.Funcs = append(m.Funcs, f)
	}
	for range r.Below(4) {
		m.Globs = append(m.Globs, api.Glob{Name: r.OneOf(pool...), Bind: r.Below(5), Here: r.Below(2) == 0, Init: uint64(r.Below(100))})
	}
	return m
}

// namesIn are the names of a module's functions, then its globals, as they stand there.
func namesIn(m api.Module) []string {
	var out []string
	for _, f := range m.Funcs {
		out = append(out, f.Name)
	}
	for _, g := range m.Globs {
		out = append(out, g.Name)
	}
	return out
}

// leadsTo: has the first function of that name an instruction with the other name, of one of these Ops?
func leadsTo(m api.Module, name, other string, ops ...int) bool {
	for _, f := range m.Funcs {
		if f.Name != name {
			continue
		}
		for _, b := range f.Blocks {
			for _, i := range b.Ins {
				if i.Name == other && slices.Contains(ops, i.Op) {
					return true
				}
			}
		}
		return false
	}
	return false
}

// list is a text's words.
func list(text string) []string {
	return strings.Fields(text)
}
