package ir_test

import (
	"fmt"
	"math"
	"strings"
	"testing"

	"marline/api"
	"marline/ir"
)

// TestFunc: P5.1, functions that are right.
func TestFunc(t *testing.T) {
	for _, x := range goodFuncs() {
		expectFunc(t, x.why, x.f, true)
	}
	for start := range 1000 {
		r := row(start)
		expectFunc(t, fmt.Sprint("row ", start), r.someFunc("f", []string{"a", "b"}), true)
	}
}

// one is a function handed two values, of one block that gives two more.
func one() api.Func {
	return api.Func{Name: "f", Bind: api.BStrong, Params: 2, Blocks: []api.Block{
		{Params: 2, Ins: []api.Inst{{Op: api.IAdd, A: 0, B: 1}, {Op: api.IWrite, A: 2}}, End: ret(3)},
	}}
}

// TestFuncItself: P5.1, what a function has by itself: Name, Bind, Params, how many blocks.
func TestFuncItself(t *testing.T) {
	for n, want := range map[int]bool{0: false, 1: true, 15: true, 16: true, 17: false, 300: false} {
		f := one()
		f.Name = strings.Repeat("n", n)
		expectFunc(t, fmt.Sprint("Name of ", n, " bytes"), f, want)
		f.Blocks = nil
		expectFunc(t, fmt.Sprint("no blocks, Name of ", n, " bytes"), f, want)
	}
	for name, want := range map[string]bool{"éééééééé": true, "ééééééééé": false, strings.Repeat("\x00", 16): true, strings.Repeat("\xff", 17): false} {
		f := one()
		f.Name = name
		expectFunc(t, fmt.Sprintf("Name %q", name), f, want)
	}
	for _, bind := range []int{math.MinInt, -1, 0, 1, 2, 3, 4, 5, 1 << 32, 1<<32 + 1, 1<<32 + 2, math.MaxInt} {
		f := one()
		f.Bind = bind
		expectFunc(t, fmt.Sprint("Bind ", bind), f, bind >= 1 && bind <= 3)
		f.Blocks = nil
		expectFunc(t, fmt.Sprint("no blocks, Bind ", bind), f, bind == 2 || bind == 3)
	}
	for _, n := range []int{math.MinInt, -1, 0, 1, 2, 5, 6, 7, 8, 1 << 32, math.MaxInt} {
		f := one()
		f.Params, f.Blocks = n, nil
		expectFunc(t, fmt.Sprint("no blocks, Params ", n), f, n >= 0 && n <= 6)
		f.Blocks = []api.Block{{Params: n, Ins: []api.Inst{konst(1)}, End: ret(0)}}
		expectFunc(t, fmt.Sprint("Params ", n, " of it and its first block"), f, n >= 0 && n <= 6)
		f = one()
		f.Params = n
		expectFunc(t, fmt.Sprint("Params ", n, ", of its first block 2"), f, n == 2)
	}
	for _, n := range []int{1, 2, 15, 16, 17, 18, 40} {
		f := one()
		for len(f.Blocks) < n {
			f.Blocks = append(f.Blocks, seven("").Blocks[0])
		}
		expectFunc(t, fmt.Sprint(n, " blocks"), f, n <= 16)
	}
}

// TestFuncBlocks: P5.1, what each block has: Params, how many instructions, and that these are right.
func TestFuncBlocks(t *testing.T) {
	for _, n := range []int{math.MinInt, -2, -1, 0, 1, 6, 7, 8, math.MaxInt} {
		for at := 1; at <= 3; at++ {
			f := one()
			for len(f.Blocks) < 4 {
				f.Blocks = append(f.Blocks, seven("").Blocks[0])
			}
			f.Blocks[at].Params = n
			expectFunc(t, fmt.Sprint("Params ", n, " of block ", at), f, n >= 0 && n <= 6)
		}
	}
	for _, n := range []int{0, 1, 31, 32, 33, 34, 64} {
		f := one()
		f.Blocks[0].Ins, f.Blocks[0].End = make([]api.Inst, n), ret(0)
		for k := range n {
			f.Blocks[0].Ins[k] = konst(uint64(k))
		}
		expectFunc(t, fmt.Sprint(n, " instructions"), f, n <= 32)
		g := one()
		g.Blocks = append(g.Blocks, f.Blocks[0])
		g.Blocks[1].Params = 1
		expectFunc(t, fmt.Sprint(n, " instructions of the second block"), g, n <= 32)
	}
	// Each instruction sees what stands ahead of it, and no more.
	for at := range 32 {
		for _, v := range []int{-1, 0, at + 5, at + 6, at + 7, 37, 38} {
			f := long()
			f.Blocks[3].Ins[at].A = v
			expectFunc(t, fmt.Sprint("instruction ", at, " uses ", v), f, v >= 0 && v < 6+at)
			f = long()
			f.Blocks[15].Ins[at] = api.Inst{Op: api.ICall, Name: "f", Args: []int{0, v}}
			expectFunc(t, fmt.Sprint("the call ", at, " uses ", v), f, v >= 0 && v < 6+at)
		}
	}
	for why, i := range map[string]api.Inst{
		"Op 0": {}, "Op 17": {Op: 17}, "K": {Op: api.IRead, K: 1}, "A": {Op: api.IRead, A: 1}, "B": {Op: api.IWrite, B: 1}, "Args": {Op: api.IRead, Args: []int{0}},
		"no Name": {Op: api.ILoad}, "a Name": {Op: api.IRead, Name: "n"}, "a long Name": {Op: api.ICall, Name: strings.Repeat("n", 17)}, "Args of seven": {Op: api.ICall, Name: "n", Args: count(7)},
	} {
		f := long()
		f.Blocks[15].Ins[31] = i
		expectFunc(t, "the last instruction: "+why, f, false)
		f = long()
		f.Blocks[0].Ins[0] = i
		expectFunc(t, "the first instruction: "+why, f, false)
	}
}

// TestFuncOwn: P5.1, a block sees its own values alone, not what another one gives.
func TestFuncOwn(t *testing.T) {
	f := one()
	f.Blocks[0].End = jump(1)
	f.Blocks = append(f.Blocks, api.Block{Ins: []api.Inst{konst(1)}, End: ret(0)})
	expectFunc(t, "its own", f, true)
	for v := 1; v <= 5; v++ {
		g := copiedFunc(f)
		g.Blocks[1].End.A = v
		expectFunc(t, fmt.Sprint("an end of value ", v), g, false)
		g = copiedFunc(f)
		g.Blocks[1].Ins = append(g.Blocks[1].Ins, api.Inst{Op: api.IWrite, A: v})
		expectFunc(t, fmt.Sprint("an instruction of value ", v), g, false)
	}
}

// ends is a function of three blocks, of 1, 2 and 3 Params, of which the first has four values, and this end.
func ends(end api.Term) api.Func {
	return api.Func{Name: "f", Bind: api.BLocal, Params: 1, Blocks: []api.Block{
		{Params: 1, Ins: []api.Inst{konst(1), konst(2), konst(3)}, End: end},
		{Params: 2, End: ret(1)},
		{Params: 3, End: ret(2)},
	}}
}

// odd are numbers that are neither 0 nor a block's or a value's.
var odd = []int{math.MinInt, -1, 4, 5, 1 << 32, math.MaxInt}

// TestFuncJump: P5.1, the end TJump.
func TestFuncJump(t *testing.T) {
	for to := -2; to <= 5; to++ {
		for many := range 8 {
			expectFunc(t, fmt.Sprint("to ", to, " with ", many), ends(jump(to, count(many)...)), to >= 0 && to <= 2 && many == to+1)
		}
	}
	for _, to := range append(odd, 3) {
		expectFunc(t, fmt.Sprint("to ", to), ends(jump(to)), false)
	}
	for v := -1; v <= 5; v++ {
		for at := range 3 {
			end := jump(2, 0, 1, 2)
			end.Args[at] = v
			expectFunc(t, fmt.Sprint("value ", v, " at ", at), ends(end), v >= 0 && v <= 3)
		}
	}
	for _, v := range append(odd, 1, 2, 3) {
		a, b := jump(1, 0, 3), jump(1, 0, 3)
		a.A, b.Else = v, v
		expectFunc(t, fmt.Sprint("A ", v), ends(a), false)
		expectFunc(t, fmt.Sprint("Else ", v), ends(b), false)
	}
	for _, l := range [][]int{{}, {0}, {0, 0}} {
		end := jump(0, 3)
		end.Elses = l
		expectFunc(t, fmt.Sprint("Elses ", l), ends(end), len(l) == 0)
	}
}

// TestFuncIf: P5.1, the end TIf.
func TestFuncIf(t *testing.T) {
	goes := func(a, to, els int, many, others int) api.Term {
		return api.Term{Kind: api.TIf, A: a, To: to, Args: count(many), Else: els, Elses: count(others)}
	}
	for _, v := range append(odd, 0, 1, 2, 3) {
		expectFunc(t, fmt.Sprint("A ", v), ends(goes(v, 0, 0, 1, 1)), v >= 0 && v <= 3)
		expectFunc(t, fmt.Sprint("To ", v), ends(goes(0, v, 2, v&7+1, 3)), v >= 0 && v <= 2)
		expectFunc(t, fmt.Sprint("Else ", v), ends(goes(0, 2, v, 3, v&7+1)), v >= 0 && v <= 2)
	}
	for to := range 3 {
		for els := range 3 {
			for many := range 5 {
				for others := range 5 {
					why := fmt.Sprint("to ", to, " with ", many, ", else to ", els, " with ", others)
					expectFunc(t, why, ends(goes(3, to, els, many, others)), many == to+1 && others == els+1)
				}
			}
		}
	}
	for v := -1; v <= 5; v++ {
		for at := range 3 {
			a, b := goes(3, 2, 2, 3, 3), goes(3, 2, 2, 3, 3)
			a.Args[at], b.Elses[at] = v, v
			expectFunc(t, fmt.Sprint("value ", v, " at ", at), ends(a), v >= 0 && v <= 3)
			expectFunc(t, fmt.Sprint("else value ", v, " at ", at), ends(b), v >= 0 && v <= 3)
		}
	}
}

// TestFuncRet: P5.1, the end TRet.
func TestFuncRet(t *testing.T) {
	for _, v := range append(odd, 0, 1, 2, 3) {
		expectFunc(t, fmt.Sprint("A ", v), ends(ret(v)), v >= 0 && v <= 3)
	}
	for _, v := range append(odd, 1, 2, 3) {
		a, b := ret(0), ret(0)
		a.To, b.Else = v, v
		expectFunc(t, fmt.Sprint("To ", v), ends(a), false)
		expectFunc(t, fmt.Sprint("Else ", v), ends(b), false)
	}
	for _, l := range [][]int{{}, {0}, {1, 2}} {
		a, b := ret(0), ret(0)
		a.Args, b.Elses = l, l
		expectFunc(t, fmt.Sprint("Args ", l), ends(a), len(l) == 0)
		expectFunc(t, fmt.Sprint("Elses ", l), ends(b), len(l) == 0)
	}
	none := api.Func{Name: "f", Bind: api.BLocal, Blocks: []api.Block{{End: ret(0)}}}
	expectFunc(t, "of no values", none, false)
}

// TestFuncKind: P5.1, there are three kinds of ends.
func TestFuncKind(t *testing.T) {
	for _, kind := range append(odd, 0, 1, 2, 3) {
		for _, end := range []api.Term{{}, {Args: []int{0}}, {Args: []int{0}, Elses: []int{0}}} {
			end.Kind = kind
			want := kind == api.TJump && len(end.Args) == 1 && len(end.Elses) == 0 || kind == api.TIf && len(end.Elses) == 1 || kind == api.TRet && len(end.Args) == 0
			expectFunc(t, fmt.Sprintf("%+v", end), ends(end), want)
		}
	}
}

// TestFuncLastEnd: P5.1, each block's end is to be right, and goes to a block from its own values, also that of the last one, and of one that nothing goes to.
func TestFuncLastEnd(t *testing.T) {
	for at := range 3 {
		for _, end := range []api.Term{{}, jump(3), jump(1, 0), jump(2, 0, 0, at+9), ret(at + 9), ret(-1), {Kind: 4}} {
			f := ends(ret(0))
			f.Blocks[at].End = end
			expectFunc(t, fmt.Sprintf("block %d ends with %+v", at, end), f, false)
		}
		f := ends(ret(0))
		f.Blocks[at].End = jump(2, 0, 0, 0)
		expectFunc(t, fmt.Sprint("block ", at, " jumps"), f, true)
	}
}

// within: is a number one of these?
func within(v, least, most int) bool {
	return least <= v && v <= most
}

// rightFunc: is a function right, by the document's words?
func rightFunc(f api.Func) bool {
	right := within(len(f.Name), 1, 16) && within(f.Bind, 1, 3) && within(f.Params, 0, 6) && within(len(f.Blocks), 0, 16)
	if len(f.Blocks) == 0 {
		return right && f.Bind != api.BLocal
	}
	right = right && f.Params == f.Blocks[0].Params
	for _, b := range f.Blocks {
		right = right && within(b.Params, 0, 6) && within(len(b.Ins), 0, 32)
		n := b.Params
		for _, i := range b.Ins {
			right = right && rightInst(i, n)
			n++
		}
		right = right && rightTerm(b.End, n, f.Blocks)
	}
	return right
}

// rightTerm: is the end of a block of n values right, by the document's words?
func rightTerm(e api.Term, n int, blocks []api.Block) bool {
	value := func(v int) bool { return within(v, 0, n-1) }
	block := func(to int, args []int) bool {
		right := within(to, 0, len(blocks)-1) && len(args) == blocks[to].Params
		for _, v := range args {
			right = right && value(v)
		}
		return right
	}
	none := func(v int, l []int) bool { return v == 0 && len(l) == 0 }
	switch e.Kind {
	case api.TJump:
		return block(e.To, e.Args) && none(e.A, nil) && none(e.Else, e.Elses)
	case api.TIf:
		return value(e.A) && block(e.To, e.Args) && block(e.Else, e.Elses)
	}
	return e.Kind == api.TRet && value(e.A) && none(e.To, e.Args) && none(e.Else, e.Elses)
}

// spoil changes a field or a list of a function, somewhere.
func (r *row) spoil(f *api.Func) {
	small := func() int { return []int{-1, 0, 1, 2, 3, 5, 6, 7}[r.below(8)] }
	list := func(l *[]int) {
		switch {
		case r.below(2) == 0 && len(*l) > 0:
			(*l)[r.below(len(*l))] = small()
		case r.below(2) == 0 && len(*l) > 0:
			*l = (*l)[1:]
		default:
			*l = append(*l, small())
		}
	}
	b := &f.Blocks[r.below(len(f.Blocks))]
	switch r.below(14) {
	case 0:
		f.Params = small()
	case 1:
		f.Bind = small()
	case 2:
		b.Params = small()
	case 3:
		b.End.Kind = small()
	case 4:
		b.End.A = small()
	case 5:
		b.End.To = small()
	case 6:
		b.End.Else = small()
	case 7:
		list(&b.End.Args)
	case 8:
		list(&b.End.Elses)
	default:
		if len(b.Ins) > 0 {
			i := &b.Ins[r.below(len(b.Ins))]
			switch r.below(6) {
			case 0:
				i.Op = r.below(18)
			case 1:
				i.A = small()
			case 2:
				i.B = small()
			case 3:
				i.K = uint64(r.below(2))
			case 4:
				i.Name = []string{"", "a", "far too long a name"}[r.below(3)]
			case 5:
				list(&i.Args)
			}
		}
	}
}

// TestFuncAll: P5.1, of rows of functions with a field or some changed.
func TestFuncAll(t *testing.T) {
	right := 0
	for start := range 20000 {
		r := row(start)
		f := r.someFunc("f", []string{"a", "b"})
		for range 1 + r.below(2) {
			r.spoil(&f)
		}
		want := rightFunc(f)
		if want {
			right++
		}
		expectFunc(t, fmt.Sprint("row ", start), f, want)
	}
	if right < 2000 || right > 18000 {
		t.Errorf("%d of 20000 are right", right)
	}
}

// TestFuncNothing: R1, Func answers at all functions, also those of which nothing is right.
func TestFuncNothing(t *testing.T) {
	expectFunc(t, "nothing", api.Func{}, false)
	expectFunc(t, "blocks of nothing", api.Func{Name: "f", Bind: 1, Blocks: make([]api.Block, 2)}, false)
	wild := api.Term{Kind: api.TIf, A: math.MinInt, To: math.MaxInt, Args: odd, Else: math.MinInt, Elses: odd}
	expectFunc(t, "wild ends", api.Func{Name: "f", Bind: 1, Blocks: []api.Block{{End: wild}}}, false)
	expectFunc(t, "wild Params", api.Func{Name: "f", Bind: 1, Params: math.MaxInt, Blocks: []api.Block{{Params: math.MaxInt, Ins: make([]api.Inst, 3), End: wild}}}, false)
	if n := len(ir.Refs(api.Func{Blocks: make([]api.Block, 3)})); n != 0 {
		t.Errorf("Refs of blocks of nothing: %d", n)
	}
}
