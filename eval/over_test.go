package eval_test

import (
	"fmt"
	"strings"
	"testing"

	"marline/api"
)

// sorts is main with a step of each kind, and a function f that it calls: 12 steps in all.
func sorts() api.Module {
	return api.Module{
		Funcs: []api.Func{
			function("main",
				block(0, jump(1, 1), konst('x'), read(), write(0)),
				block(1, either(1, 2, []int{0}, 2, []int{1}), call("f", 0)),
				block(1, ret(1), load("g")),
			),
			function("f", block(1, ret(0), store(0, "g"), write(0), read())),
		},
		Globs: []api.Glob{glob("g", 3)},
	}
}

// TestRunOver: P7.3, the whole trace at each step of a run, by hand.
func TestRunOver(t *testing.T) {
	for fuel, want := range []api.Trace{
		0:  {Deep: 1},
		1:  {Deep: 1},
		2:  {Read: 1, Deep: 1},
		3:  {Read: 1, Out: "x", Deep: 1},
		4:  {Read: 1, Out: "x", Deep: 1}, // the jump
		5:  {Read: 1, Out: "x", Deep: 2}, // f is called
		6:  {Read: 1, Out: "x", Deep: 2},
		7:  {Read: 1, Out: "xa", Deep: 2},
		8:  {Read: 2, Out: "xa", Deep: 2},
		9:  {Read: 2, Out: "xa", Deep: 2}, // f has given back
		10: {Read: 2, Out: "xa", Deep: 2},
		11: {Read: 2, Out: "xa", Deep: 2},
	} {
		want.Steps = fuel
		for _, deep := range []int{2, 3, 64} {
			expectRun(t, "cut off", sorts(), "abc", fuel, deep, want, api.ErrFuel)
		}
	}
	whole := api.Trace{Ended: true, Code: 'a', Out: "xa", Read: 2, Steps: 12, Deep: 2}
	for _, fuel := range []int{12, 13, 14, 100, 100000} {
		expectRun(t, "whole", sorts(), "abc", fuel, 2, whole, api.OK)
		expectRun(t, "whole", sorts(), "abc", fuel, 64, whole, api.OK)
	}
}

// TestRunOverDeep: P7.3, a call that is too deep is a step, unless the fuel is out ahead of it.
func TestRunOverDeep(t *testing.T) {
	for fuel := range 14 {
		want, e := api.Trace{Read: 1, Out: "x", Steps: 5, Deep: 1}, api.ErrDeep
		switch {
		case fuel < 3:
			continue
		case fuel < 5:
			want.Steps, e = fuel, api.ErrFuel
		}
		expectRun(t, "a call that is too deep", sorts(), "abc", fuel, 1, want, e)
	}
	first := module(line("main", call("main")))
	for deep := 1; deep <= 64; deep++ {
		want := api.Trace{Steps: deep, Deep: deep}
		expectRun(t, "nothing but calls", first, "", deep, deep, want, api.ErrDeep)
		expectRun(t, "nothing but calls", first, "", 100000, deep, want, api.ErrDeep)
		for fuel := range deep {
			expectRun(t, "nothing but calls, and little fuel", first, "", fuel, deep, api.Trace{Steps: fuel, Deep: fuel + 1}, api.ErrFuel)
		}
	}
}

// TestRunDeep: P7.3, calls that go just as deep as is granted, and one deeper.
func TestRunDeep(t *testing.T) {
	for n := range 63 { // main, and n + 1 calls of fac
		whole := deeper(ended(0, "", 0, 3+3+6*n), n+2)
		whole.Code = 1
		for k := range n {
			whole.Code *= uint64(k + 1)
		}
		m := factorial(uint64(n))
		for deep := 1; deep <= 64; deep++ {
			want, e := whole, api.OK
			if deep < n+2 {
				// Of those calls of fac that were made, each made the four steps to the next one.
				want, e = api.Trace{Steps: 2 + 4*(deep-1), Deep: deep}, api.ErrDeep
			}
			expectRun(t, fmt.Sprint("the factorial of ", n), m, "", 1000, deep, want, e)
		}
	}
	expectRun(t, "one that is never deep enough", factorial(63), "", 1000, 64, api.Trace{Steps: 2 + 4*63, Deep: 64}, api.ErrDeep)
}

// TestRunMostDeep: P7.3, Deep is the most calls that were open at one time, not the last ones, nor all.
func TestRunMostDeep(t *testing.T) {
	f, g, h := line("f", call("g"), call("h")), line("g", call("h"), konst(3)), line("h", konst(2))
	for _, c := range []struct {
		ins   []api.Inst
		steps int
		deep  int
	}{
		{[]api.Inst{konst(1)}, 2, 1},
		{[]api.Inst{call("h")}, 4, 2},
		{[]api.Inst{call("h"), call("h"), call("h")}, 10, 2},
		{[]api.Inst{call("g")}, 7, 3},
		{[]api.Inst{call("f")}, 12, 4},
		{[]api.Inst{call("f"), call("h")}, 15, 4},
		{[]api.Inst{call("h"), call("g"), call("f"), call("g"), call("h")}, 30, 4},
	} {
		m := module(line("main", c.ins...), f, g, h)
		code := uint64(2)
		if c.ins[len(c.ins)-1].Name == "g" {
			code = 3
		} else if c.ins[0].Op == api.IConst {
			code = 1
		}
		why := fmt.Sprintf("%v", c.ins)
		expectRun(t, why, m, "", c.steps, c.deep, deeper(ended(code, "", 0, c.steps), c.deep), api.OK)
		expectRun(t, why, m, "", c.steps, 64, deeper(ended(code, "", 0, c.steps), c.deep), api.OK)
		expectRun(t, why, m, "", c.steps-1, 64, api.Trace{Steps: c.steps - 1, Deep: c.deep}, api.ErrFuel)
		for deep := 1; deep < c.deep; deep++ {
			want, e := ran(m, "", 100, deep)
			if e != api.ErrDeep || want.Deep != deep {
				t.Errorf("%s: not so deep", why)
			}
			expectRun(t, why, m, "", 100, deep, want, api.ErrDeep)
		}
	}
}

// TestRunEver: P7.3, runs that never end are over when their fuel is.
func TestRunEver(t *testing.T) {
	nothing := module(function("main", block(0, jump(0))))
	counts := module(function("main",
		block(0, jump(1, 0), konst(0)),
		block(1, either(1, 1, []int{2}, 0, nil), konst(1), two(api.IAdd, 0, 1), write(2)),
	))
	again := module(function("main", block(0, jump(0), call("f"))), line("f", read(), write(0)))
	in := strings.Repeat("0123456789", 10000)
	for _, fuel := range []int{0, 1, 2, 3, 4, 5, 6, 7, 8, 9, 10, 11, 999, 1000, 99999, 100000} {
		expectRun(t, "a loop of nothing", nothing, in, fuel, 1, api.Trace{Steps: fuel, Deep: 1}, api.ErrFuel)
		var out []byte // each time round: the number, the sum, write, the end
		for n := range max(fuel-1, 0) / 4 {
			out = append(out, byte(n+1))
		}
		expectRun(t, "a loop that counts", counts, in, fuel, 1, api.Trace{Out: string(out), Steps: fuel, Deep: 1}, api.ErrFuel)
		// Each time round: the call, read, write, the end of f, the jump.
		want := api.Trace{Steps: fuel, Read: (fuel + 3) / 5, Deep: min(1+fuel, 2)}
		want.Out = in[:(fuel+2)/5]
		expectRun(t, "a loop that calls", again, in, fuel, 2, want, api.ErrFuel)
	}
	for _, fuel := range []int{100001, 1 << 40} {
		expectRun(t, "more fuel than may be", nothing, "", fuel, 1, api.Trace{}, api.ErrArg)
	}
}

// long is main that goes round n times, each time three steps, and ends: 5 and 3 times n steps.
func long(n uint64) api.Module {
	return module(function("main",
		block(0, jump(1, 0), konst(n)),
		block(1, either(2, 1, []int{2}, 2, []int{2}), konst(1), two(api.ISub, 0, 1)),
		block(1, ret(1), konst(n)),
	))
}

// TestRunLong: P7.3, a run that ends with exactly its fuel, and with one less, up to the most fuel that may be.
func TestRunLong(t *testing.T) {
	for _, n := range []int{1, 2, 10, 1000, 33331, 33332} {
		steps := 2 + 3*n + 2
		want, e := ended(uint64(n), "", 0, steps), api.OK
		if steps > 100000 {
			want, e = api.Trace{Steps: 100000, Deep: 1}, api.ErrFuel
		}
		expectRun(t, fmt.Sprint("times ", n), long(uint64(n)), "", min(steps, 100000), 1, want, e)
		expectRun(t, fmt.Sprint("times ", n), long(uint64(n)), "", 100000, 1, want, e)
		expectRun(t, fmt.Sprint("times ", n), long(uint64(n)), "", min(steps, 100000)-1, 1, api.Trace{Steps: min(steps, 100000) - 1, Deep: 1}, api.ErrFuel)
	}
	most := module(function("main", append([]api.Block{block(0, jump(1, 0), konst(33331))}, long(0).Funcs[0].Blocks[1:]...)...))
	most.Funcs[0].Blocks[2].Ins = append(most.Funcs[0].Blocks[2].Ins, konst(1), konst(2), konst(3)) // 100000 steps, all told
	expectRun(t, "as many as may be", most, "", 100000, 1, ended(0, "", 0, 100000), api.OK)
	expectRun(t, "one less", most, "", 99999, 1, api.Trace{Steps: 99999, Deep: 1}, api.ErrFuel)
	most.Funcs[0].Blocks[2].Ins = append(most.Funcs[0].Blocks[2].Ins, konst(4))
	expectRun(t, "one more than may be", most, "", 100000, 1, api.Trace{Steps: 100000, Deep: 1}, api.ErrFuel)
}

// TestRunRandom: P7.2 and P7.3, modules of all sorts, against a run by the chapter's words.
func TestRunRandom(t *testing.T) {
	told := map[api.Errno]int{}
	for start := range 8000 {
		r := random(start)
		m, in := r.module(), r.input()
		for _, fuel := range []int{r.below(20), r.below(300)} {
			deep := 1 + r.below(8)
			want, e := ran(m, in, fuel, deep)
			told[e]++
			expectRun(t, fmt.Sprint("random ", start), m, in, fuel, deep, want, e)
		}
	}
	for _, e := range []api.Errno{api.OK, api.ErrFuel, api.ErrDeep} {
		if told[e] < 1200 {
			t.Errorf("%d of these answer %d", told[e], e)
		}
	}
}
