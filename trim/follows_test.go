package trim_test

import (
	"testing"

	"marline/api"
	"marline/eval"
	"marline/ir"
	"marline/sample"
	"marline/trim"
)

// TestFollows: P13.3, what is whole stays so; where it ends it does the same, in no more steps; a second time nothing changes.
func TestFollows(t *testing.T) {
	ended, wrote, fewer := 0, 0, 0
	for start := range 1500 {
		r := randomFrom(start)
		m := r.Whole()
		if e := eval.Whole(m); e != api.OK {
			t.Fatalf("row %d: the test's module isn't whole: %d", start, e)
		}
		out := trim.Module(m)
		if e := eval.Whole(out); e != api.OK {
			t.Errorf("row %d: it isn't whole: %d", start, e)
		}
		expectNoMore(t, start, m, out)
		runs := sample.Runs(out)
		for at, want := range sample.Runs(m) {
			if want.Errno != api.OK {
				continue
			}
			got := runs[at]
			if got.Trace.Steps > want.Trace.Steps {
				t.Errorf("row %d: it runs in %d steps, not in %d or fewer", start, got.Trace.Steps, want.Trace.Steps)
			}
			if want.Trace.Out != "" {
				wrote++
			}
			if got.Trace.Steps < want.Trace.Steps {
				fewer++
			}
			ended++
			got.Trace.Steps = want.Trace.Steps
			if got != want {
				t.Errorf("row %d: it runs as %+v, not %+v", start, got, want)
			}
		}
	}
	if ended < 15000 || wrote < 5000 || fewer < 5000 {
		t.Errorf("%d runs ended, %d wrote, %d are of fewer steps", ended, wrote, fewer)
	}
}

// expectNoMore: what was made of a module has no more blocks and instructions than that, and stays as it is a second time.
func expectNoMore(t *testing.T, start int, m, out api.Module) {
	t.Helper()
	blocks, ins := size(m.Funcs...)
	if b, i := size(out.Funcs...); b > blocks || i > ins || len(out.Funcs) != len(m.Funcs) {
		t.Errorf("row %d: it has %d blocks, %d instructions of %d, %d", start, b, i, blocks, ins)
	}
	if again := trim.Module(out); !ir.Same(again, out) {
		t.Errorf("row %d: a second time %.300s is %.300s", start, told(out), told(again))
	}
}

// TestFollowsRight: P13.3, what is right stays so, though it isn't whole; in a module that isn't right what nobody has is named all the same.
func TestFollowsRight(t *testing.T) {
	blocks, ins := 0, 0
	for start := range 3000 {
		r := randomFrom(start + 1<<40)
		m := r.Whole()
		for at := range m.Funcs {
			if r.Below(4) == 0 {
				m.Funcs[at].Bind, m.Funcs[at].Blocks = api.BStrong, nil
			}
		}
		if e := ir.Check(m); e != api.OK {
			t.Fatalf("row %d: the test's module isn't right: %d", start, e)
		}
		out := trim.Module(m)
		if e := ir.Check(out); e != api.OK {
			t.Errorf("row %d: it isn't right: %d", start, e)
		}
		expectNoMore(t, start, m, out)
		a, b := size(m.Funcs...)
		c, d := size(out.Funcs...)
		blocks, ins = blocks+a-c, ins+b-d
		m.Funcs = append(m.Funcs, function("more", "call nobody; ret 0"))
		if e := ir.Check(trim.Module(m)); e != api.ErrNone {
			t.Errorf("row %d: it calls nobody, and Check answers %d", start, e)
		}
	}
	if blocks < 2000 || ins < 10000 {
		t.Errorf("%d blocks and %d instructions were left out", blocks, ins)
	}
}

// TestFollowsFunc: P13.3, functions, and the blocks of such, that are right stay so; a second time nothing changes, of each call.
func TestFollowsFunc(t *testing.T) {
	for start := range 3000 {
		f := randomFrom(start).anyFunc()
		out := trim.Func(f)
		if !ir.Func(out) {
			t.Errorf("row %d: it isn't right: %.300s", start, told(out))
		}
		if again := trim.Func(out); !ir.Same(module(again), module(out)) {
			t.Errorf("row %d: a second time %.300s is %.300s", start, told(out), told(again))
		}
		if in := yes(trim.Reached(out)); len(in) != len(out.Blocks) {
			t.Errorf("row %d: %v of %d blocks are reached", start, in, len(out.Blocks))
		}
		for at, b := range f.Blocks {
			k := trim.Block(b)
			if again := trim.Block(k); !ir.Same(alone(again), alone(k)) {
				t.Errorf("row %d: a second time %.300s is %.300s", start, told(k), told(again))
			}
			f.Blocks[at] = k
		}
		if !ir.Func(f) {
			t.Errorf("row %d: with each block trimmed it isn't right: %.300s", start, told(f))
		}
	}
}

// TestFollowsSteps: P13.3, by hand: what isn't used is no step any more.
func TestFollowsSteps(t *testing.T) {
	m := sample.Mod("+x*#5")
	m.Funcs = []api.Func{function("main", "load x; read; const 1; const 2; sub 1 3; jump 2: 4 0", "const 9; ret 0", "/2; add 0 1; write 0; load x; ret 0")}
	want, e := eval.Run(m, "C", 100, 1)
	if e != api.OK || want != (api.Trace{Ended: true, Code: 'A', Out: "A", Read: 1, Steps: 10, Deep: 1}) {
		t.Fatalf("the test's module runs as %+v, %d", want, e)
	}
	want.Steps = 7
	if got, e := eval.Run(trim.Module(m), "C", 7, 1); e != api.OK || got != want {
		t.Errorf("it runs as %+v, %d, not %+v", got, e, want)
	}
}
