package ir_test

import (
	"fmt"
	"math"
	"slices"
	"strings"
	"testing"

	"marline/api"
	"marline/ir"
)

// TestValues: P5.1, what a block is handed, and what its instructions give.
func TestValues(t *testing.T) {
	for _, c := range []struct {
		params, ins, want int
	}{
		{0, 0, 0}, {1, 0, 1}, {6, 0, 6}, {0, 1, 1}, {0, 32, 32}, {6, 32, 38}, {2, 3, 5}, {7, 33, 40},
	} {
		b := api.Block{Params: c.params, Ins: make([]api.Inst, c.ins), End: ret(99)}
		if n := ir.Values(b); n != c.want {
			t.Errorf("Params %d, %d instructions: %d values, not %d", c.params, c.ins, n, c.want)
		}
	}
}

// TestUses: P5.1, A, B, or Args, in order, by the Op alone, whatever else an instruction has.
func TestUses(t *testing.T) {
	for op := -2; op <= 20; op++ {
		p, _ := planOf(op)
		for _, args := range [][]int{nil, {}, {7}, {9, 7, 9, 0}, {-1, 1 << 40, 3, 3, 3, 2, 1, 0}} {
			i := api.Inst{Op: op, A: 5, B: 4, K: 3, Name: "n", Args: args}
			var want []int
			switch {
			case p.args:
				want = args
			case p.b:
				want = []int{5, 4}
			case p.a:
				want = []int{5}
			}
			if got := ir.Uses(i); !slices.Equal(got, want) {
				t.Errorf("Op %d, Args %v: Uses answers %v, not %v", op, args, got, want)
			}
		}
	}
}

// TestUsesAny: P5.1, values are told as they are, right or not.
func TestUsesAny(t *testing.T) {
	for _, v := range []int{math.MinInt, -1, 0, 1, 37, 38, math.MaxInt} {
		if got := ir.Uses(api.Inst{Op: api.IEq, A: v, B: -v}); !slices.Equal(got, []int{v, -v}) {
			t.Errorf("IEq of %d and %d: %v", v, -v, got)
		}
		if got := ir.Uses(api.Inst{Op: api.IWrite, A: v}); !slices.Equal(got, []int{v}) {
			t.Errorf("IWrite of %d: %v", v, got)
		}
		if got := ir.Uses(api.Inst{Op: api.ICall, Args: []int{v, v}}); !slices.Equal(got, []int{v, v}) {
			t.Errorf("ICall of %d twice: %v", v, got)
		}
	}
}

// TestUsesOwn: P5.1 and R3, what Uses answers is a list of its own.
func TestUsesOwn(t *testing.T) {
	args := append(make([]int, 0, 8), 1, 2, 3)
	i := api.Inst{Op: api.ICall, Name: "f", Args: args}
	l := ir.Uses(i)
	l[0] = 9
	_ = append(l, 8)
	if !slices.Equal(args[:4], []int{1, 2, 3, 0}) {
		t.Errorf("a change of what Uses answered changed Args: %v", args[:4])
	}
	if again := ir.Uses(i); !slices.Equal(again, []int{1, 2, 3}) {
		t.Errorf("Uses answers %v then", again)
	}
}

// instRow is an instruction among n values, and whether it is right.
type instRow struct {
	why  string
	i    api.Inst
	n    int
	want bool
}

// values are rows of values used: n less 1, n, and below 0.
func values() []instRow {
	var rows []instRow
	for _, op := range []int{api.IAdd, api.ISub, api.IMul, api.IAnd, api.IOr, api.IXor, api.IShl, api.IShr, api.ILess, api.IEq} {
		rows = append(rows,
			instRow{"A and B below n", api.Inst{Op: op, A: 4, B: 0}, 5, true},
			instRow{"A and B below n", api.Inst{Op: op, A: 0, B: 4}, 5, true},
			instRow{"A is n", api.Inst{Op: op, A: 5, B: 0}, 5, false},
			instRow{"B is n", api.Inst{Op: op, A: 0, B: 5}, 5, false},
			instRow{"A below 0", api.Inst{Op: op, A: -1, B: 0}, 5, false},
			instRow{"B below 0", api.Inst{Op: op, A: 0, B: -1}, 5, false},
			instRow{"among no values", api.Inst{Op: op}, 0, false},
			instRow{"among one", api.Inst{Op: op}, 1, true},
			instRow{"among less than none", api.Inst{Op: op}, -1, false},
			instRow{"among the fewest", api.Inst{Op: op}, math.MinInt, false},
			instRow{"the greatest A", api.Inst{Op: op, A: math.MaxInt}, 5, false},
			instRow{"the least B", api.Inst{Op: op, B: math.MinInt}, 5, false},
			instRow{"the greatest, among the most", api.Inst{Op: op, A: math.MaxInt - 1}, math.MaxInt, true},
		)
	}
	for _, i := range []api.Inst{{Op: api.IWrite}, {Op: api.IStore, Name: "g"}} {
		for a, want := range map[int]bool{math.MinInt: false, -1: false, 0: true, 4: true, 5: false, math.MaxInt: false} {
			k := i
			k.A = a
			rows = append(rows, instRow{"A among five", k, 5, want})
		}
		b := i
		b.B = 1
		rows = append(rows, instRow{"B not used", b, 5, false}, instRow{"among no values", i, 0, false}, instRow{"among one", i, 1, true})
	}
	for _, i := range []api.Inst{konst(0), konst(math.MaxUint64), {Op: api.ILoad, Name: "g"}, {Op: api.ICall, Name: "f"}, {Op: api.IRead}} {
		a, b, c := i, i, i
		a.A, b.B, c.A, c.B = 1, 1, -1, -1
		rows = append(rows, instRow{"uses none", i, 5, true}, instRow{"A not used", a, 5, false}, instRow{"B not used", b, 5, false}, instRow{"A and B below 0", c, 5, false},
			instRow{"among no values", i, 0, true}, instRow{"among less than none", i, -1, true}, instRow{"among the fewest", i, math.MinInt, true})
	}
	return rows
}

// calls are rows of Args.
func calls() []instRow {
	var rows []instRow
	for many := range 9 {
		i := api.Inst{Op: api.ICall, Name: "f", Args: count(many)}
		rows = append(rows, instRow{fmt.Sprint("Args of ", many), i, 1, many <= 6}, instRow{fmt.Sprint("Args of ", many, " among no values"), i, 0, many == 0})
		for at := range many {
			for _, v := range []int{math.MinInt, -1, 3, 4, math.MaxInt} {
				k := i
				k.Args = slices.Clone(i.Args)
				k.Args[at] = v
				rows = append(rows, instRow{fmt.Sprint("Args of ", many, " with ", v, " at ", at), k, 4, many <= 6 && v == 3})
			}
		}
	}
	for op := 1; op <= 16; op++ {
		i := api.Inst{Op: op, Args: []int{0}}
		if plans[op].name {
			i.Name = "n"
		}
		rows = append(rows, instRow{"Args", i, 1, op == api.ICall})
		i.Args = []int{}
		rows = append(rows, instRow{"Args of none", i, 1, true})
	}
	return rows
}

// names are rows of names.
func names() []instRow {
	var rows []instRow
	for op := 1; op <= 16; op++ {
		p := plans[op]
		for name, want := range map[string]bool{
			"": !p.name, "n": p.name, "\x00": p.name, "\xff": p.name, strings.Repeat("n", 15): p.name, strings.Repeat("n", 16): p.name, strings.Repeat("n", 17): false,
			"éééééééé": p.name, "ééééééééé": false, strings.Repeat("n", 300): false,
		} {
			rows = append(rows, instRow{fmt.Sprintf("Name %q", name), api.Inst{Op: op, Name: name}, 1, want})
		}
	}
	return rows
}

// TestInst: P5.1, when an instruction is right among n values, edge by edge.
func TestInst(t *testing.T) {
	rows := slices.Concat(values(), calls(), names())
	for op := -3; op <= 33; op++ {
		p, is := planOf(op)
		i := api.Inst{Op: op}
		if p.name {
			i.Name = "n"
		}
		rows = append(rows, instRow{"Op", i, 1, is})
		i.K = 1
		rows = append(rows, instRow{"K", i, 1, op == api.IConst})
		i.K = 1 << 63
		rows = append(rows, instRow{"K", i, 1, op == api.IConst})
	}
	for _, op := range []int{math.MinInt, 1 << 32, 1<<32 + 1, math.MaxInt} {
		rows = append(rows, instRow{"Op", api.Inst{Op: op}, 1, false})
	}
	for _, x := range rows {
		before := told(x.i)
		if got := ir.Inst(x.i, x.n); got != x.want {
			t.Errorf("%s: Inst(%+v, %d) answers %v", x.why, x.i, x.n, got)
		}
		if told(x.i) != before {
			t.Errorf("%s: Inst wrote into what it was handed", x.why)
		}
	}
}

// rightInst: is an instruction right among n values, by the document's words?
func rightInst(i api.Inst, n int) bool {
	p, is := planOf(i.Op)
	value := func(used bool, v int) bool {
		return used && 0 <= v && v < n || !used && v == 0
	}
	for _, v := range i.Args {
		if !value(true, v) {
			return false
		}
	}
	least, most := 0, 0
	if p.name {
		least, most = 1, 16
	}
	return is && value(p.a, i.A) && value(p.b, i.B) && (p.k || i.K == 0) && (len(i.Args) == 0 || p.args && len(i.Args) <= 6) && least <= len(i.Name) && len(i.Name) <= most
}

// TestInstAll: P5.1, of all instructions of some fields.
func TestInstAll(t *testing.T) {
	right := 0
	for op := -1; op <= 18; op++ {
		for code := range 6 * 6 * 2 * 4 * 6 * 4 {
			pick := func(n int) int {
				x := code % n
				code /= n
				return x
			}
			i := api.Inst{Op: op}
			i.A = []int{-1, 0, 1, 2, 3, math.MinInt}[pick(6)]
			i.B = []int{-1, 0, 1, 2, 3, math.MaxInt}[pick(6)]
			i.K = []uint64{0, 1 << 40}[pick(2)]
			i.Name = []string{"", "n", strings.Repeat("n", 16), strings.Repeat("n", 17)}[pick(4)]
			i.Args = [][]int{nil, {}, {2, 1}, {3}, {0, 0, 0, 0, 0, 0}, {0, 0, 0, 0, 0, 0, 0}}[pick(6)]
			n := pick(4)
			want := rightInst(i, n)
			if got := ir.Inst(i, n); got != want {
				t.Fatalf("Inst(%+v, %d) answers %v", i, n, got)
			}
			if want {
				right++
			}
		}
	}
	if right < 300 {
		t.Errorf("%d of these are right", right)
	}
}
