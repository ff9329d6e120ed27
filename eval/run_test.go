package eval_test

import (
	"fmt"
	"math"
	"strings"
	"testing"

	"marline/api"
	"marline/eval"
)

// runRow is a module, what it is handed, and the trace of its whole run.
type runRow struct {
	why  string
	m    api.Module
	in   string
	want api.Trace
}

// ended is a trace of a run that ended, and in which no call but main's was open.
func ended(code uint64, out string, read, steps int) api.Trace {
	return api.Trace{Ended: true, Code: code, Out: out, Read: read, Steps: steps, Deep: 1}
}

// deeper is that trace, where so many calls were open at one time.
func deeper(t api.Trace, deep int) api.Trace {
	t.Deep = deep
	return t
}

// expectRows: each of these runs so with as much fuel as it needs, and with as much as may be.
func expectRows(t *testing.T, rows []runRow) {
	t.Helper()
	for _, x := range rows {
		expectRun(t, x.why, x.m, x.in, x.want.Steps, x.want.Deep, x.want, api.OK)
		expectRun(t, x.why, x.m, x.in, api.MaxFuel, api.MaxDeep, x.want, api.OK)
	}
}

// with is main of these instructions, which gives back its last value, in a module of these globals.
func with(globs []api.Glob, ins ...api.Inst) api.Module {
	return api.Module{Funcs: []api.Func{line("main", ins...)}, Globs: globs}
}

// TestRunValues: P7.2, IConst gives K, and IAdd to IEq what Reckon makes of A and B, in that order.
func TestRunValues(t *testing.T) {
	var rows []runRow
	for _, k := range []uint64{0, 1, 7, 256, 1 << 32, high, most - 1, most} {
		rows = append(rows, runRow{fmt.Sprint("IConst of ", k), with(nil, konst(k)), "", ended(k, "", 0, 2)})
	}
	for op := api.IAdd; op <= api.IEq; op++ {
		for _, v := range [][2]uint64{{12, 5}, {5, 12}, {5, 5}, {1, 63}, {3, 64}, {3, 65}, {most, 1}, {1, most}, {high, high}, {0, high}} {
			a, b := konst(v[0]), konst(v[1])
			one, other := eval.Reckon(op, v[0], v[1]), eval.Reckon(op, v[1], v[0])
			why := fmt.Sprintf("Op %d of %v", op, v)
			rows = append(rows,
				runRow{why, with(nil, a, b, konst(99), two(op, 0, 1)), "", ended(one, "", 0, 5)},
				runRow{why + ", B given ahead of A", with(nil, b, a, konst(99), two(op, 1, 0)), "", ended(one, "", 0, 5)},
				runRow{why + ", the other way", with(nil, a, b, konst(99), two(op, 1, 0)), "", ended(other, "", 0, 5)},
				runRow{why + ", A twice", with(nil, b, a, two(op, 1, 1)), "", ended(eval.Reckon(op, v[0], v[0]), "", 0, 4)},
			)
		}
	}
	expectRows(t, rows)
}

// TestRunRet: P7.2, TRet of each value of a block, and the module of as many values as may be.
func TestRunRet(t *testing.T) {
	var rows []runRow
	for at := range 32 {
		var ins []api.Inst
		for k := range 32 {
			ins = append(ins, konst(uint64(k*k+1)))
		}
		m := module(function("main", block(0, ret(at), ins...)))
		rows = append(rows, runRow{fmt.Sprint("TRet of ", at), m, "", ended(uint64(at*at+1), "", 0, 33)})
	}
	expectRows(t, rows)
}

// TestRunGlobs: P7.2, globals are at first what Init says, and then what was stored last; IStore gives 0.
func TestRunGlobs(t *testing.T) {
	globs := []api.Glob{glob("a", 5), glob("b", most), glob("c", 0), {Name: "gone", Bind: api.BWeak}, {Name: "aa", Bind: api.BLocal, Here: true, Init: high}}
	expectRows(t, []runRow{
		{"load a", with(globs, load("a")), "", ended(5, "", 0, 2)},
		{"load b", with(globs, load("b")), "", ended(most, "", 0, 2)},
		{"load c", with(globs, load("c")), "", ended(0, "", 0, 2)},
		{"load aa", with(globs, load("aa")), "", ended(high, "", 0, 2)},
		{"what a store gives", with(globs, konst(9), store(0, "a")), "", ended(0, "", 0, 3)},
		{"a store, and a load", with(globs, konst(9), store(0, "a"), load("a")), "", ended(9, "", 0, 4)},
		{"a store of all bits", with(globs, konst(most), store(0, "c"), load("c")), "", ended(most, "", 0, 4)},
		{"a store of 0", with(globs, konst(0), store(0, "b"), load("b")), "", ended(0, "", 0, 4)},
		{"a store of another one", with(globs, konst(9), store(0, "aa"), load("a")), "", ended(5, "", 0, 4)},
		{"a load ahead of the store", with(globs, load("a"), konst(9), store(1, "a"), two(api.IOr, 0, 2)), "", ended(5, "", 0, 5)},
		{"two stores", with(globs, konst(9), konst(8), store(0, "a"), store(1, "a"), load("a")), "", ended(8, "", 0, 6)},
		{"a becomes b", with(globs, load("b"), store(0, "a"), konst(3), store(2, "b"), load("a")), "", ended(most, "", 0, 6)},
		{"a store of what isn't the last value", with(globs, konst(4), konst(6), store(0, "c"), load("c")), "", ended(4, "", 0, 5)},
	})
	m := with(globs, load("a"), konst(1), two(api.IAdd, 0, 1), store(2, "a"), load("a"))
	for range 3 { // what was stored in a run is not there in the next one
		expectRun(t, "a, and one more", m, "", 100, 1, ended(6, "", 0, 6), api.OK)
	}
}

// TestRunRead: P7.2, IRead takes the next byte, or gives 256 where there is none; Read counts what was taken.
func TestRunRead(t *testing.T) {
	three := with(nil, read(), read(), read(), konst(1000), two(api.IMul, 0, 3), two(api.IAdd, 4, 1), two(api.IMul, 5, 3), two(api.IAdd, 6, 2))
	expectRows(t, []runRow{
		{"nothing", with(nil, read()), "", ended(256, "", 0, 2)},
		{"the last byte", with(nil, read()), "a", ended('a', "", 1, 2)},
		{"the byte 0", with(nil, read()), "\x00", ended(0, "", 1, 2)},
		{"the byte 127", with(nil, read()), "\x7f", ended(127, "", 1, 2)},
		{"the byte 128", with(nil, read()), "\x80", ended(128, "", 1, 2)},
		{"the byte 255", with(nil, read()), "\xff", ended(255, "", 1, 2)},
		{"a byte of a letter of two", with(nil, read()), "é", ended(0xc3, "", 1, 2)},
		{"the first one of some", with(nil, read()), "abc", ended('a', "", 1, 2)},
		{"the second one of some", with(nil, read(), read()), "abc", ended('b', "", 2, 3)},
		{"behind the last byte", with(nil, read(), read()), "a", ended(256, "", 1, 3)},
		{"far behind it", with(nil, read(), read(), read(), read()), "a", ended(256, "", 1, 5)},
		{"none is read", with(nil, konst(7)), "abc", ended(7, "", 0, 2)},
		{"three of five", three, "\x01\x02\x03\x04\x05", ended(1002003, "", 3, 9)},
		{"three of three", three, "\x01\x02\x03", ended(1002003, "", 3, 9)},
		{"three of two", three, "\x01\x02", ended(1002256, "", 2, 9)},
		{"three of none", three, "", ended(256256256, "", 0, 9)},
		{"of very much", with(nil, read(), read()), strings.Repeat("xy", 1<<20), ended('y', "", 2, 3)},
	})
}

// TestRunWrite: P7.2, IWrite writes the lowest byte of A, and gives 0.
func TestRunWrite(t *testing.T) {
	for v, want := range map[uint64]string{
		0: "\x00", 1: "\x01", 'a': "a", 127: "\x7f", 128: "\x80", 255: "\xff", 256: "\x00", 257: "\x01", 0x1234: "4", 1 << 32: "\x00", high: "\x00", high + 'b': "b", most: "\xff", most - 1: "\xfe",
	} {
		expectRows(t, []runRow{{fmt.Sprint("IWrite of ", v), with(nil, konst(v), write(0)), "", ended(0, want, 0, 3)}})
	}
	expectRows(t, []runRow{
		{"one byte again and again", with(nil, konst('x'), write(0), write(0), write(1), write(0)), "", ended(0, "xx\x00x", 0, 6)},
		{"in order", with(nil, konst('a'), konst('b'), write(1), write(0)), "", ended(0, "ba", 0, 5)},
		{"what was read", with(nil, read(), write(0), read(), write(2), read(), write(4)), "é", ended(0, "é\x00", 2, 7)},
	})
}

// TestRunCall: P7.2, a call's first block is handed the Args' values, and the call gives what TRet says.
func TestRunCall(t *testing.T) {
	// digits gives its six values as the digits of a number.
	digits := function("digits", block(6, ret(16),
		konst(10), two(api.IMul, 0, 6), two(api.IAdd, 7, 1), two(api.IMul, 8, 6), two(api.IAdd, 9, 2), two(api.IMul, 10, 6),
		two(api.IAdd, 11, 3), two(api.IMul, 12, 6), two(api.IAdd, 13, 4), two(api.IMul, 14, 6), two(api.IAdd, 15, 5)))
	minus := function("minus", block(2, ret(2), two(api.ISub, 0, 1)))
	one := line("one", konst(1))
	id := function("id", block(1, ret(0)))
	calls := func(ins ...api.Inst) api.Module {
		return module(digits, minus, line("main", ins...), one, id)
	}
	six := []api.Inst{konst(1), konst(2), konst(3), konst(4), konst(5), konst(6)}
	expectRows(t, []runRow{
		{"no Args", calls(konst(5), call("one")), "", deeper(ended(1, "", 0, 5), 2)},
		{"one of Args", calls(konst(5), konst(6), call("id", 0)), "", deeper(ended(5, "", 0, 5), 2)},
		{"two of Args", calls(konst(5), konst(3), call("minus", 0, 1)), "", deeper(ended(2, "", 0, 6), 2)},
		{"two of Args, swapped", calls(konst(5), konst(3), call("minus", 1, 0)), "", deeper(ended(most-1, "", 0, 6), 2)},
		{"one value twice", calls(konst(5), konst(3), call("minus", 1, 1)), "", deeper(ended(0, "", 0, 6), 2)},
		{"six of Args", calls(append(six, call("digits", 0, 1, 2, 3, 4, 5))...), "", deeper(ended(123456, "", 0, 20), 2)},
		{"six of Args, backwards", calls(append(six, call("digits", 5, 4, 3, 2, 1, 0))...), "", deeper(ended(654321, "", 0, 20), 2)},
		{"six of Args, some twice", calls(append(six, call("digits", 3, 3, 0, 5, 5, 0))...), "", deeper(ended(441661, "", 0, 20), 2)},
		{"the caller's values stay", calls(konst(5), konst(3), call("minus", 0, 1), two(api.IShl, 0, 2), two(api.IOr, 3, 1)), "", deeper(ended(23, "", 0, 8), 2)},
		{"two calls, one after the other", calls(konst(9), call("id", 0), call("one"), call("minus", 1, 2)), "", deeper(ended(8, "", 0, 10), 2)},
		{"a call of what a call gave", calls(konst(9), call("id", 0), call("id", 1), call("id", 2)), "", deeper(ended(9, "", 0, 8), 2)},
	})
	// What is called reads, writes and changes globals: they are the same everywhere.
	shared := api.Module{
		Funcs: []api.Func{
			line("main", load("g"), call("f"), load("g"), read(), write(3), two(api.IAdd, 0, 2), two(api.IAdd, 5, 1)),
			line("f", read(), write(0), load("g"), konst(100), two(api.IAdd, 2, 3), store(4, "g"), load("h"), konst(5), store(7, "h"), two(api.IAdd, 6, 2)),
		},
		Globs: []api.Glob{glob("g", 20), glob("h", 3)},
	}
	expectRows(t, []runRow{{"what a function called changes", shared, "ab?", deeper(ended(20+120+23, "ab", 2, 8+11), 2)}})
}

// factorial is main that gives back that of n, by a function that calls itself.
func factorial(n uint64) api.Module {
	return module(line("main", konst(n), call("fac", 0)), function("fac",
		block(1, either(0, 1, []int{0}, 2, nil)),
		block(1, ret(4), konst(1), two(api.ISub, 0, 1), call("fac", 2), two(api.IMul, 0, 3)),
		block(0, ret(0), konst(1)),
	))
}

// TestRunSelf: P7.2, a function that calls itself has its own values in each call.
func TestRunSelf(t *testing.T) {
	var rows []runRow
	code := uint64(1)
	for n := range 21 {
		code *= uint64(max(n, 1))
		rows = append(rows, runRow{fmt.Sprint("the factorial of ", n), factorial(uint64(n)), "", deeper(ended(code, "", 0, 3+3+6*n), n+2)})
	}
	fib := module(line("main", konst(10), call("fib", 0)), function("fib",
		block(1, either(2, 1, []int{0}, 2, []int{0}), konst(2), two(api.ILess, 0, 1)),
		block(1, ret(0)),
		block(1, ret(6), konst(1), two(api.ISub, 0, 1), call("fib", 2), two(api.ISub, 2, 1), call("fib", 4), two(api.IAdd, 3, 5)),
	))
	// 177 calls of fib, 89 of which are of 0 or 1.
	rows = append(rows, runRow{"the sum of two calls of its own", fib, "", deeper(ended(55, "", 0, 3+177*3+89+88*7), 11)})
	both := module(
		line("main", konst(7), call("even", 0)),
		function("even", block(1, either(0, 1, []int{0}, 2, nil)), block(1, ret(3), konst(1), two(api.ISub, 0, 1), call("odd", 2)), block(0, ret(0), konst(1))),
		function("odd", block(1, either(0, 1, []int{0}, 2, nil)), block(1, ret(3), konst(1), two(api.ISub, 0, 1), call("even", 2)), block(0, ret(0), konst(0))),
	)
	rows = append(rows, runRow{"two that call one another", both, "", deeper(ended(0, "", 0, 3+7*5+3), 9)})
	expectRows(t, rows)
	main := module(function("main", block(0, either(0, 1, nil, 2, nil), load("left")),
		block(0, ret(5), load("left"), konst(1), two(api.ISub, 0, 1), store(2, "left"), call("main"), two(api.IAdd, 4, 0)), block(0, ret(0), konst(0))))
	main.Globs = []api.Glob{glob("left", 5)}
	expectRows(t, []runRow{{"main calls itself, and only the first call's end is the run's", main, "", deeper(ended(15, "", 0, 5*9+4), 6)}})
}

// TestRunJump: P7.2, TJump goes on with a block, handed these values, and nothing else.
func TestRunJump(t *testing.T) {
	three := []api.Inst{konst(30), konst(20), konst(10)}
	var rows []runRow
	for a := range 3 {
		for b := range 3 {
			x, y := three[a].K, three[b].K
			why := fmt.Sprint("TJump with ", a, ", ", b)
			to := func(at int) api.Func {
				l := []api.Block{block(0, jump(at, a, b), three...), block(0, ret(0), konst(1)), block(0, ret(0), konst(2)), block(0, ret(0), konst(3))}
				l[at] = block(2, ret(3), konst(5), two(api.ISub, 0, 1)) // its own first value has the number 2
				return function("main", l...)
			}
			for at := 1; at <= 3; at++ {
				rows = append(rows, runRow{fmt.Sprint(why, " to ", at), module(to(at)), "", ended(x-y, "", 0, 7)})
			}
		}
	}
	swap := function("main",
		block(0, jump(1, 0, 1, 2), konst(1), konst(2), konst(3)),
		block(3, either(4, 1, []int{1, 0, 4}, 2, []int{0, 1}), konst(1), two(api.ISub, 2, 3)),
		block(2, ret(4), konst(10), two(api.IMul, 0, 2), two(api.IAdd, 3, 1)),
	)
	rows = append(rows, runRow{"values that are swapped as they are handed on", module(swap), "", ended(12, "", 0, 4+3*3+4)})
	rows = append(rows,
		runRow{"a block that is handed six values", module(function("main", block(0, jump(1, 0, 1, 2, 2, 1, 0), three...), block(6, ret(6), two(api.ISub, 3, 4)))), "", ended(most-9, "", 0, 6)},
		runRow{"a block of no instruction", module(function("main", block(0, jump(1, 2), three...), block(1, jump(2, 0)), block(1, ret(0)))), "", ended(10, "", 0, 6)},
		runRow{"blocks in another order", module(function("main", block(0, jump(3)), block(0, ret(0), konst(1)), block(0, jump(1)), block(0, jump(2)))), "", ended(1, "", 0, 5)},
	)
	expectRows(t, rows)
}

// TestRunIf: P7.2, TIf goes on with To and Args where A isn't 0, else with Else and Elses.
func TestRunIf(t *testing.T) {
	for _, a := range []uint64{0, 1, 2, 256, 1 << 32, 1<<64 - 1<<32, high, most} {
		goes := func(k, want uint64) uint64 {
			if a == 0 {
				return want
			}
			return k
		}
		ins := []api.Inst{konst(5), konst(a), konst(6)}
		ends := []api.Block{block(1, ret(0), konst(99)), block(2, ret(2), two(api.IShl, 0, 1))}
		why := fmt.Sprint("A is ", a)
		expectRows(t, []runRow{
			{why + ", to 1, else 2", module(function("main", append([]api.Block{block(0, either(1, 1, []int{0}, 2, []int{0, 2}), ins...)}, ends...)...)), "", ended(goes(5, 5<<6), "", 0, 6)},
			{why + ", to 2, else 1", module(function("main", append([]api.Block{block(0, either(1, 2, []int{2, 0}, 1, []int{2}), ins...)}, ends...)...)), "", ended(goes(6<<5, 6), "", 0, 6)},
			{why + ", to 2 both ways", module(function("main", append([]api.Block{block(0, either(1, 2, []int{2, 0}, 2, []int{0, 2}), ins...)}, ends...)...)), "", ended(goes(6<<5, 5<<6), "", 0, 6)},
		})
		own := function("main", block(0, either(1, 1, []int{1}, 2, []int{1}), ins...), block(1, ret(1), konst(77)), block(1, ret(0)))
		expectRows(t, []runRow{{why + ", of other lengths", module(own), "", ended(goes(77, 0), "", 0, 5+int(goes(1, 0)))}})
	}
}

// echo writes what it reads, till 256 comes; its code is how many bytes that were.
func echo() api.Module {
	return module(function("main",
		block(0, jump(1, 0), konst(0)),
		block(1, either(3, 2, []int{0}, 3, []int{0, 1}), read(), konst(256), two(api.IEq, 1, 2)),
		block(1, ret(0)),
		block(2, jump(1, 4), write(1), konst(1), two(api.IAdd, 0, 3)),
	))
}

// TestRunEcho: P7.2, a loop that reads and writes.
func TestRunEcho(t *testing.T) {
	for n := range 40 {
		s := strings.Repeat("\x00é~\xff", n)
		expectRows(t, []runRow{{fmt.Sprint("bytes of five, times ", n), echo(), s, ended(uint64(len(s)), s, len(s), 2+8*len(s)+4+1)}})
	}
}

// TestRunArg: P7.2, fuel is 0 to MaxFuel, deep 1 to MaxDeep; nothing else is told ahead of that.
func TestRunArg(t *testing.T) {
	none, one := api.Trace{}, api.Trace{Deep: 1}
	mods := map[string]api.Module{"whole": seven(), "no main": {}, "not right": module(make([]api.Func, 3)...), "too big": module(make([]api.Func, 17)...), "away": module(line("main", call("f")), function("f"))}
	for why, m := range mods {
		for _, fuel := range []int{math.MinInt, -100000, -1, 0, 1, 2, 99999, 100000, 100001, 1 << 32, 1<<32 + 5, math.MaxInt} {
			for _, deep := range []int{math.MinInt, -64, -1, 0, 1, 2, 63, 64, 65, 1 << 32, 1<<32 + 5, math.MaxInt} {
				want, e := ended(7, "", 0, 2), api.OK
				switch {
				case fuel < 0 || fuel > 100000 || deep < 1 || deep > 64:
					want, e = none, api.ErrArg
				case why != "whole":
					want, e = none, wholeness(m)
				case fuel < 2:
					want, e = one, api.ErrFuel
					want.Steps = fuel
				}
				expectRun(t, why, m, "in", fuel, deep, want, e)
			}
		}
	}
}

// TestRunOther: R4, what one run does hangs on no other one, whichever came ahead of it.
func TestRunOther(t *testing.T) {
	a := with([]api.Glob{glob("g", 1)}, load("g"), konst(5), store(1, "g"), call("main2"))
	a.Funcs = append(a.Funcs, line("main2", load("g")))
	b := with([]api.Glob{glob("g", 2)}, load("g"), read(), write(1), store(1, "g"), call("main2"))
	b.Funcs = append(b.Funcs, line("main2", load("g"), two(api.IAdd, 0, 0)))
	for range 3 {
		expectRun(t, "one", a, "a", 100, 2, deeper(ended(5, "", 0, 7), 2), api.OK)
		expectRun(t, "the other", b, "b", 100, 2, deeper(ended(2*'b', "b", 1, 9), 2), api.OK)
		expectRun(t, "one that is cut off", b, "b", 4, 2, api.Trace{Out: "b", Read: 1, Steps: 4, Deep: 1}, api.ErrFuel)
	}
}
