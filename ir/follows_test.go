package ir_test

import (
	"fmt"
	"slices"
	"testing"

	"marline/api"
	"marline/ir"
)

// usedAhead: is each value that a function uses given ahead, in its own block?
func usedAhead(f api.Func) bool {
	for _, b := range f.Blocks {
		given := map[int]bool{}
		for v := range b.Params {
			given[v] = true
		}
		for _, i := range b.Ins {
			for _, v := range ir.Uses(i) {
				if !given[v] {
					return false
				}
			}
			given[len(given)] = true
		}
		if len(given) != ir.Values(b) {
			return false
		}
		var ends []int
		if b.End.Kind != api.TJump {
			ends = append(ends, b.End.A)
		}
		for _, v := range slices.Concat(ends, b.End.Args, b.End.Elses) {
			if !given[v] {
				return false
			}
		}
	}
	return true
}

// TestFollowsUses: P5.3, in a function that Func calls right each value that is used is given ahead, in its own block.
func TestFollowsUses(t *testing.T) {
	for _, x := range goodFuncs() {
		if !ir.Func(x.f) || !usedAhead(x.f) {
			t.Errorf("%s: not right, or uses what isn't given", x.why)
		}
	}
	right, wrong := 0, 0
	for start := range 10000 {
		r := row(start)
		f := r.someFunc("f", []string{"a"})
		for range r.below(4) {
			r.spoil(&f)
		}
		switch {
		case !ir.Func(f):
			wrong++
		case !usedAhead(f):
			t.Fatalf("row %d: a right function uses what isn't given: %s", start, told(f))
		default:
			right++
		}
	}
	if right < 1000 || wrong < 1000 {
		t.Errorf("%d right, %d not", right, wrong)
	}
}

// expectFewer: a right module with a function less, that nothing names, is right; with one that another one names, it isn't. It answers how many there are of each.
func expectFewer(t *testing.T, why string, m api.Module) (int, int) {
	t.Helper()
	expectCheck(t, why, m, api.OK)
	free, named := 0, 0
	for at, f := range m.Funcs {
		k := copied(m)
		k.Funcs = slices.Delete(k.Funcs, at, at+1)
		want := api.OK
		for _, other := range k.Funcs {
			if slices.Contains(ir.Refs(other), f.Name) {
				want = api.ErrNone
			}
		}
		if want == api.OK {
			free++
		} else {
			named++
		}
		expectCheck(t, fmt.Sprint(why, ", less function ", at), k, want)
	}
	return free, named
}

// TestFollowsFewer: P5.3, of modules of all sorts.
func TestFollowsFewer(t *testing.T) {
	expectFewer(t, "all sorts", whole())
	expectFewer(t, "as many as may be", full())
	expectFewer(t, "the document's", api.Module{Funcs: []api.Func{seven("main")}})
	free, named := 0, 0
	for start := range 2000 {
		r := row(start)
		a, b := expectFewer(t, fmt.Sprint("row ", start), r.someModule())
		free += a
		named += b
	}
	if free < 500 || named < 500 {
		t.Errorf("nothing names %d, something names %d", free, named)
	}
}

// TestFollowsSame: R4, what is answered hangs on the module alone: one of the same fields gets the same answers.
func TestFollowsSame(t *testing.T) {
	for start := range 500 {
		r := row(start)
		m := r.someModule()
		f := &m.Funcs[r.below(len(m.Funcs))]
		if r.below(2) == 0 && len(f.Blocks) > 0 {
			r.spoil(f)
		}
		k := copied(m)
		if !ir.Same(m, k) || ir.Check(m) != ir.Check(k) {
			t.Fatalf("row %d: a copy isn't the same: %s", start, told(m))
		}
	}
}
