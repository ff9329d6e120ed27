package fold_test

import (
	"fmt"
	"math"
	"testing"

	"marline/api"
)

// no and yes are what Known tells of a value.
const no, yes = false, true

// TestKnownNothing: P12.1, blocks without values, and what a block is handed.
func TestKnownNothing(t *testing.T) {
	expectKnown(t, api.Block{})
	expectKnown(t, api.Block{Ins: []api.Inst{}, End: api.Term{Kind: api.TIf, A: 0}})
	expectKnown(t, block("ret 0"))
	expectKnown(t, block("/1; ret 0"), no)
	expectKnown(t, block("/6; jump 0: 1 2 3 4 5 0"), no, no, no, no, no, no)
	expectKnown(t, api.Block{Params: 1000}, make([]bool, 1000)...)
}

// TestKnownHandedLess: P12.1, a block that isn't right, with Params below 0: it is handed nothing, its values are numbered from 0 on.
func TestKnownHandedLess(t *testing.T) {
	for _, params := range []int{-1, -2, -1000, math.MinInt} {
		b := block("const 5; add 0 0; add 1 -1; ret 0")
		b.Params = params
		expectKnown(t, b, yes, yes, no)
	}
}

// TestKnownConst: P12.1, an IConst gives what is known, whatever else stands in it.
func TestKnownConst(t *testing.T) {
	expectKnown(t, block("const 0; ret 0"), yes)
	expectKnown(t, block("/2; const 18446744073709551615; const 1; ret 0"), no, no, yes, yes)
	expectKnown(t, api.Block{Ins: []api.Inst{{Op: api.IConst, A: 9, B: -9, K: 1, Name: "x", Args: []int{9}}}}, yes)
}

// TestKnownExample: P12.1, the document's example, and others.
func TestKnownExample(t *testing.T) {
	expectKnown(t, block("const 2; const 3; mul 0 1; ret 2"), yes, yes, yes)
	expectKnown(t, block("/1; const 5; sub 1 1; add 0 1; eq 2 1; ret 4"), no, yes, yes, no, yes)
	expectKnown(t, block("read; const 5; add 1 1; add 0 2; mul 2 1; mul 3 4; less 4 2; ret 6"), no, yes, yes, no, yes, no, yes)
}

// unknown are instructions, each at the place 2 behind two that are known, that give what isn't known.
func unknown() map[string]api.Inst {
	l := map[string]api.Inst{
		"ILoad":  {Op: api.ILoad, Name: "x"},
		"IStore": {Op: api.IStore, A: 1, Name: "x"},
		"ICall":  {Op: api.ICall, Name: "f", Args: []int{0, 1}},
		"IRead":  {Op: api.IRead},
		"IWrite": {Op: api.IWrite, A: 1},
		"itself": {Op: api.IAdd, A: 2, B: 2},
	}
	for _, op := range []int{0, -1, -2, 17, 18, 1000, math.MinInt, math.MaxInt, 1 + 1<<32, 2 + 1<<8} {
		l[fmt.Sprint("the Op ", op)] = api.Inst{Op: op, A: 0, B: 1, K: 5}
	}
	return l
}

// TestKnownOther: P12.1, what other instructions give isn't known, though what they use is; their values are numbered all the same.
func TestKnownOther(t *testing.T) {
	for why, i := range unknown() {
		b := block("const 5; const 6; read; add 0 1; add 3 1; add 2 3; ret 0")
		b.Ins[2] = i
		t.Run(why, func(t *testing.T) { expectKnown(t, b, yes, yes, no, yes, yes, no) })
	}
}

// TestKnownReckoned: P12.1, of each operation from IAdd to IEq, with both, one, or none of its values known.
func TestKnownReckoned(t *testing.T) {
	for op := api.IAdd; op <= api.IEq; op++ {
		for a, is := range []bool{no, no, yes, yes, no} {
			for b, too := range []bool{no, no, yes, yes, no} {
				k := block("/2; const 5; add 2 2; read; 0; ret 0")
				k.Ins[3] = api.Inst{Op: op, A: a, B: b}
				expectKnown(t, k, no, no, yes, yes, no, is && too)
			}
		}
	}
}

// TestKnownNumbers: P12.1, a number below 0, that of the value itself, of one behind it, of none at all: nothing is known.
func TestKnownNumbers(t *testing.T) {
	for op := api.IAdd; op <= api.IEq; op++ {
		for _, number := range []int{-1, -2, -4, 4, 5, 6, 7, 8, 1000, 4 + 1<<32, 4 + 1<<8, math.MaxInt, math.MinInt, math.MinInt + 4} {
			for _, i := range []api.Inst{{Op: op, A: number, B: 3}, {Op: op, A: 3, B: number}, {Op: op, A: number, B: number}} {
				k := block("/2; const 5; const 5; 0; const 5; const 5; ret 0")
				k.Ins[2] = i
				expectKnown(t, k, no, no, yes, yes, no, yes, yes)
			}
		}
	}
}

// TestKnownLong: P12.1, a row in which each value hangs on the one ahead; and one in which nothing is known, since the first one isn't.
func TestKnownLong(t *testing.T) {
	for at, first := range []api.Inst{{Op: api.IConst, K: 1}, {Op: api.IRead}} {
		b := api.Block{Ins: []api.Inst{first}}
		var want []bool
		for k := range 5000 {
			want = append(want, at == 0)
			b.Ins = append(b.Ins, api.Inst{Op: api.IAdd, A: k, B: k})
		}
		expectKnown(t, b, append(want, at == 0)...)
	}
}

// TestKnownAny: P12.1, of blocks of all sorts, held against the chapter's words.
func TestKnownAny(t *testing.T) {
	told := map[bool]int{}
	for start := range 20000 {
		r := randomFrom(start)
		b := r.someBlock()
		var want []bool
		for number := range max(b.Params, 0) + len(b.Ins) {
			_, is := worth(b, number)
			want = append(want, is)
			if number >= b.Params && b.Ins[number-max(b.Params, 0)].Op != api.IConst {
				told[is]++
			}
		}
		expectKnown(t, b, want...)
	}
	if told[no] < 20000 || told[yes] < 10000 {
		t.Errorf("known and not: %v", told)
	}
}
