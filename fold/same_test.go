package fold_test

import (
	"fmt"
	"math"
	"testing"

	"marline/api"
)

// TestSame: P12.2, functions of one block that always give back the same.
func TestSame(t *testing.T) {
	for text, want := range map[string]uint64{
		"const 7; ret 0":                                7,
		"const 0; ret 0":                                0,
		"const 18446744073709551615; ret 0":             1<<64 - 1,
		"const 2; const 3; mul 0 1; ret 2":              6,
		"const 2; const 3; mul 0 1; ret 1":              3,
		"const 2; const 3; mul 0 1; ret 0":              2,
		"/2; const 5; add 0 1; sub 2 2; ret 4":          0,
		"/2; const 5; add 0 1; less 3 2; ret 2":         5,
		"/1; const 5; add 1 1; add 0 2; add 2 2; ret 4": 20,
		"const 5; add -1 9; shl 0 0; ret 2":             160,
	} {
		expectSame(t, module(function("f", text)), "f", want, true)
	}
}

// TestSameNot: P12.2, functions of one block of which that isn't known.
func TestSameNot(t *testing.T) {
	for _, text := range []string{
		"ret 0",
		"/1; ret 0",
		"/1; const 5; ret 0",
		"/1; const 5; add 0 1; ret 2",
		"const 5; add 1 1; ret 1",
		"const 5; ret 1",
		"const 5; ret -1",
		"const 5; ret 4294967296",
		"const 5; jump 0",
		"const 5; if 0: 0: 0",
		"const 5; none",
	} {
		expectSame(t, module(function("f", text)), "f", 0, false)
	}
	for _, a := range []int{math.MinInt, math.MaxInt, math.MinInt + 2, -1, 0, 1, 3} {
		b := block("/2; const 5; ret 0")
		b.End.A = a
		expectSame(t, alone(b), "", 0, false)
	}
}

// TestSameEnds: P12.2, of all ends TRet alone will do.
func TestSameEnds(t *testing.T) {
	for _, kind := range []int{0, 1, 2, 4, 5, -3, 3 + 1<<32, 3 + 1<<8, math.MaxInt, math.MinInt} {
		b := block("const 5; const 6; ret 0")
		b.End.Kind = kind
		expectSame(t, alone(b), "", 0, false)
	}
}

// TestSameOther: P12.2, no instruction but IConst and IAdd to IEq may stand there, ahead of what is given back or behind it, whatever it does.
func TestSameOther(t *testing.T) {
	for why, i := range unknown() {
		for at := range 3 {
			b := block("const 5; const 6; const 7; ret 0")
			b.Ins[at] = i
			for a := range 3 {
				b.End.A = a
				is, k := false, uint64(0)
				if why == "itself" && a != at {
					is, k = true, uint64(5+a)
				}
				t.Run(fmt.Sprint(why, at, a), func(t *testing.T) { expectSame(t, alone(b), "", k, is) })
			}
		}
	}
}

// TestSameReckoned: P12.2, each operation from IAdd to IEq may stand there, known or not.
func TestSameReckoned(t *testing.T) {
	for op := api.IAdd; op <= api.IEq; op++ {
		for _, a := range []int{0, 1, 2, 5, -5} {
			b := block("/1; const 5; 0; ret 1")
			b.Ins[1] = api.Inst{Op: op, A: a, B: 1}
			expectSame(t, alone(b), "", 5, true)
		}
	}
}

// TestSameBlocks: P12.2, a function of no blocks, of one, of two.
func TestSameBlocks(t *testing.T) {
	five := "const 5; ret 0"
	expectSame(t, module(function("f")), "f", 0, false)
	expectSame(t, module(api.Func{Name: "f", Blocks: []api.Block{}}), "f", 0, false)
	expectSame(t, module(function("f", five)), "f", 5, true)
	expectSame(t, module(function("f", five, five)), "f", 0, false)
	expectSame(t, module(function("f", five, five, five)), "f", 0, false)
	expectSame(t, module(function("f", "jump 1", five)), "f", 0, false)
}

// TestSameNames: P12.2, the first function of the name is asked, whatever stands behind it, and however it binds; a global is none.
func TestSameNames(t *testing.T) {
	five, six, other := function("f", "const 5; ret 0"), function("f", "const 6; ret 0"), function("g", "const 7; ret 0")
	read, away := function("f", "read; ret 0"), function("f")
	for _, name := range []string{"", "f ", "F", "ff", "f\x00", "x", "h"} {
		expectSame(t, api.Module{}, name, 0, false)
		expectSame(t, module(five, other), name, 0, false)
	}
	expectSame(t, module(five, other), "f", 5, true)
	expectSame(t, module(five, other), "g", 7, true)
	expectSame(t, module(other, five), "f", 5, true)
	expectSame(t, module(five, six), "f", 5, true)
	expectSame(t, module(six, other, five), "f", 6, true)
	expectSame(t, module(read, five), "f", 0, false)
	expectSame(t, module(away, five), "f", 0, false)
	expectSame(t, module(five, away, read), "f", 5, true)
	for _, bind := range []int{api.BLocal, api.BWeak, 0, 9} {
		five.Bind, five.Params = bind, 3
		expectSame(t, module(other, five), "f", 5, true)
	}
	m := module(other)
	m.Globs = []api.Glob{{Name: "f", Bind: api.BStrong, Here: true, Init: 5}, {Name: "g", Bind: api.BStrong, Here: true, Init: 6}}
	expectSame(t, m, "f", 0, false)
	expectSame(t, m, "g", 7, true)
}

// TestSameAny: P12.2, of modules of all sorts, held against the chapter's words.
func TestSameAny(t *testing.T) {
	told := map[bool]int{}
	for start := range 8000 {
		r := randomFrom(start)
		m := r.someModule()
		for at := range m.Funcs {
			if l := m.Funcs[at].Blocks; len(l) > 0 && r.Below(2) == 0 {
				l[0].End.Kind, m.Funcs[at].Blocks = api.TRet, l[:1]
			}
		}
		for _, name := range []string{"f", "g", "main", "x", ""} {
			k, is := always(m, name)
			told[is]++
			expectSame(t, m, name, k, is)
		}
	}
	if told[true] < 400 {
		t.Errorf("always the same and not: %v", told)
	}
}

// always is what Same answers, by the chapter's words.
func always(m api.Module, name string) (uint64, bool) {
	for _, f := range m.Funcs {
		if f.Name != name {
			continue
		}
		if len(f.Blocks) != 1 || f.Blocks[0].End.Kind != api.TRet {
			return 0, false
		}
		for _, i := range f.Blocks[0].Ins {
			if i.Op < 1 || i.Op > 11 {
				return 0, false
			}
		}
		return worth(f.Blocks[0], f.Blocks[0].End.A)
	}
	return 0, false
}
