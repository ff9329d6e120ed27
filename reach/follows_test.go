package reach_test

import (
	"fmt"
	"slices"
	"testing"

	"marline/api"
	"marline/eval"
	"marline/ir"
	"marline/reach"
	"marline/sample"
)

// hide makes most functions and globals of a module local, some weak, so that more of them are dropped; main stays as it is, or is local, too.
func (r *random) hide(m *api.Module) {
	bind := func(was int, here bool) int {
		if !here || r.Below(9) == 0 {
			return was
		}
		return []int{api.BLocal, api.BLocal, api.BWeak}[r.Below(3)]
	}
	for at := range m.Funcs {
		f := &m.Funcs[at]
		f.Bind = bind(f.Bind, len(f.Blocks) > 0)
	}
	for at := range m.Globs {
		g := &m.Globs[at]
		g.Bind = bind(g.Bind, g.Here)
	}
}

// lose takes away the blocks of some functions of a module, and some globals, that stand elsewhere then.
func (r *random) lose(m *api.Module) {
	for at := range m.Funcs {
		if r.Below(5) == 0 {
			m.Funcs[at].Bind, m.Funcs[at].Blocks = 2+r.Below(2), nil
		}
	}
	for at := range m.Globs {
		if r.Below(5) == 0 {
			m.Globs[at] = api.Glob{Name: m.Globs[at].Name, Bind: 2 + r.Below(2)}
		}
	}
}

// TestFollowsNames: P11.3, what is dropped is named by nothing that stays; a right module stays right.
func TestFollowsNames(t *testing.T) {
	lost, stays, named := 0, 0, 0
	for start := range 6000 {
		r := randomFrom(start)
		m := r.Whole()
		r.hide(&m)
		if start%2 == 0 {
			r.lose(&m)
		}
		if e := ir.Check(m); e != api.OK {
			t.Fatalf("row %d: the test's module isn't right: %d", start, e)
		}
		out := reach.Drop(m)
		if e := ir.Check(out); e != api.OK {
			t.Errorf("row %d: what stays isn't right: %d", start, e)
		}
		left := namesIn(out)
		for _, f := range out.Funcs {
			for _, name := range ir.Refs(f) {
				named++
				if !slices.Contains(left, name) {
					t.Errorf("row %d: %s stays and names %s, that doesn't", start, f.Name, name)
				}
			}
		}
		stays += len(left)
		lost += len(namesIn(m)) - len(left)
		if again := reach.Drop(out); !ir.Same(again, out) {
			t.Errorf("row %d: Drop of what stays drops %d more", start, len(left)-len(namesIn(again)))
		}
	}
	if lost < 10000 || stays < 10000 || named < 20000 {
		t.Errorf("%d items are lost, %d stay, that name %d", lost, stays, named)
	}
}

// expectRuns: two modules do the same, with any fuel and so many calls open; it answers how many runs ended, and how many wrote.
func expectRuns(t *testing.T, why string, a, b api.Module) (ended, wrote int) {
	t.Helper()
	runs := sample.Runs(b)
	for at, want := range sample.Runs(a) {
		x := runs[at]
		if x != want {
			t.Errorf("%s: it runs as %+v, not %+v", why, x, want)
		}
		if x.Trace.Ended {
			ended++
		}
		if x.Trace.Out != "" {
			wrote++
		}
	}
	return ended, wrote
}

// TestFollowsRuns: P11.3, a whole module does the same without what is dropped, step by step.
func TestFollowsRuns(t *testing.T) {
	ended, wrote, lost, called := 0, 0, 0, 0
	for start := range 2000 {
		r := randomFrom(start + 1<<40)
		m := r.Whole()
		r.hide(&m)
		if e := eval.Whole(m); e != api.OK {
			t.Fatalf("row %d: the test's module isn't whole: %d", start, e)
		}
		out := reach.Drop(m)
		why := fmt.Sprint("row ", start)
		if e := eval.Whole(out); e != api.OK {
			t.Errorf("%s: what stays isn't whole: %d", why, e)
		}
		if less := len(m.Funcs) - len(out.Funcs); less > 1 && len(out.Funcs) > 1 { // one is that which isn't here
			lost++
		}
		a, b := expectRuns(t, why, m, out)
		ended, wrote, called = ended+a, wrote+b, called+len(reach.Calls(out, "main"))
	}
	if ended < 2000 || wrote < 1000 || lost < 300 || called < 1000 {
		t.Errorf("%d runs ended, %d wrote, %d modules lost functions and kept some that main calls, %d calls", ended, wrote, lost, called)
	}
}

// TestFollowsDeepest: P11.3, a function stands behind all that it calls, but for rings; all functions stand there, each once.
func TestFollowsDeepest(t *testing.T) {
	behind, rings := 0, 0
	for start := range 4000 {
		r := randomFrom(start + 1<<41)
		m := r.Whole()
		if start%2 == 0 {
			r.lose(&m)
		}
		row := reach.Deepest(m)
		all := namesIn(api.Module{Funcs: m.Funcs})
		if sorted, is := slices.Sorted(slices.Values(all)), slices.Sorted(slices.Values(row)); !slices.Equal(sorted, is) {
			t.Errorf("row %d: Deepest answers %q, of %q", start, row, all)
		}
		for at, name := range row {
			for _, other := range callsOf(m, name) {
				if slices.Contains(calledFrom(m, other), name) {
					rings++
				} else if behind++; slices.Index(row, other) >= at {
					t.Errorf("row %d: %s calls %s, and stands ahead of it: %q", start, name, other, row)
				}
			}
		}
	}
	if behind < 3000 || rings < 1000 {
		t.Errorf("%d calls are held, %d are in rings", behind, rings)
	}
}

// calledFrom are a function, all that it calls, all that these call, and so on.
func calledFrom(m api.Module, name string) []string {
	out := []string{name}
	for at := 0; at < len(out); at++ {
		for _, other := range callsOf(m, out[at]) {
			if !slices.Contains(out, other) {
				out = append(out, other)
			}
		}
	}
	return out
}
