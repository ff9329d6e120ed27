package fold_test

import (
	"slices"
	"testing"

	"marline/api"
	"marline/eval"
	"marline/fold"
	"marline/ir"
	"marline/sample"
)

// settle makes more of a right module known: some instructions give a number then, and some ends go by one of these.
func (r *random) settle(m *api.Module) {
	for _, f := range m.Funcs {
		for at := range f.Blocks {
			b := &f.Blocks[at]
			for k := range b.Ins {
				if r.Below(4) == 0 {
					b.Ins[k] = api.Inst{Op: api.IConst, K: uint64(r.Below(3))}
				}
			}
			n := ir.Values(*b)
			if b.End.Kind == api.TJump && r.Below(2) == 0 {
				to := r.Below(len(f.Blocks))
				b.End.Kind, b.End.A, b.End.Else, b.End.Elses = api.TIf, r.Below(n), to, r.Some(n, f.Blocks[to].Params)
			}
		}
	}
}

// changes are how many instructions and how many ends aren't the same in two modules.
func changes(a, b api.Module) (ins, ends int) {
	for f := range a.Funcs {
		for at, x := range a.Funcs[f].Blocks {
			y := b.Funcs[f].Blocks[at]
			if x.End.Kind != y.End.Kind {
				ends++
			}
			for k := range x.Ins {
				if x.Ins[k].Op != y.Ins[k].Op {
					ins++
				}
			}
		}
	}
	return ins, ends
}

// TestFollows: P12.3, what is whole stays so, and does the same, step by step; a second time nothing changes.
func TestFollows(t *testing.T) {
	ins, ends, ended, wrote := 0, 0, 0, 0
	for start := range 1000 {
		r := randomFrom(start)
		m := r.Whole()
		r.settle(&m)
		if e := eval.Whole(m); e != api.OK {
			t.Fatalf("row %d: the test's module isn't whole: %d", start, e)
		}
		out := fold.Module(m)
		if e := eval.Whole(out); e != api.OK {
			t.Errorf("row %d: it isn't whole: %d", start, e)
		}
		if again := fold.Module(out); !ir.Same(again, out) {
			t.Errorf("row %d: a second time %.300s is %.300s", start, told(out), told(again))
		}
		runs := sample.Runs(out)
		for at, want := range sample.Runs(m) {
			if runs[at] != want {
				t.Errorf("row %d: it runs as %+v, not %+v", start, runs[at], want)
			}
			if want.Trace.Ended {
				ended++
			}
			if want.Trace.Out != "" {
				wrote++
			}
		}
		a, b := changes(m, out)
		ins, ends = ins+a, ends+b
	}
	if ins < 1000 || ends < 300 || ended < 10000 || wrote < 5000 {
		t.Errorf("%d instructions and %d ends are others, %d runs ended, %d wrote", ins, ends, ended, wrote)
	}
}

// TestFollowsRight: P12.3, what is right stays so, though it isn't whole; a call of nobody isn't lost.
func TestFollowsRight(t *testing.T) {
	for start := range 3000 {
		r := randomFrom(start + 1<<40)
		m := r.Whole()
		r.settle(&m)
		for at := range m.Funcs {
			if r.Below(4) == 0 {
				m.Funcs[at].Bind, m.Funcs[at].Blocks = api.BStrong, nil
			}
		}
		if e := ir.Check(m); e != api.OK {
			t.Fatalf("row %d: the test's module isn't right: %d", start, e)
		}
		if e := ir.Check(fold.Module(m)); e != api.OK {
			t.Errorf("row %d: it isn't right: %d", start, e)
		}
		m.Funcs = append(m.Funcs, function("more", "call nobody; ret 0"))
		if e := ir.Check(fold.Module(m)); e != api.ErrNone {
			t.Errorf("row %d: it calls nobody, and Check answers %d", start, e)
		}
	}
}

// TestFollowsSame: P12.3 and P12.2, what Same tells of a whole module's function is what a call of it gives back.
func TestFollowsSame(t *testing.T) {
	held := 0
	for start := range 6000 {
		r := randomFrom(start + 1<<41)
		m := r.Whole()
		r.settle(&m)
		for _, f := range m.Funcs {
			k, is := fold.Same(m, f.Name)
			if again, still := fold.Same(fold.Module(m), f.Name); again != k || still != is {
				t.Errorf("row %d: Same of %s answers %d, %v, and behind Module %d, %v", start, f.Name, k, is, again, still)
			}
			if is && f.Params == 0 && f.Name != "main" {
				at := slices.IndexFunc(m.Funcs, func(f api.Func) bool { return f.Name == "main" })
				m.Funcs[at].Blocks = []api.Block{block("call " + f.Name + "; ret 0")}
				x, e := eval.Run(m, "", 1000, 5)
				held++
				if e != api.OK || x.Code != k {
					t.Errorf("row %d: a call of %s gives back %d, %d, not %d", start, f.Name, x.Code, e, k)
				}
			}
		}
	}
	if held < 100 {
		t.Errorf("%d functions always give back the same", held)
	}
}
