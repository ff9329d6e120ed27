package ir_test

import (
	"fmt"
	"slices"
	"strings"
	"testing"

	"marline/api"
	"marline/ir"
)

// row is a row's next number: each row of them is always the same.
type row uint64

// below is a number below n.
func (r *row) below(n int) int {
	*r = *r*6364136223846793005 + 1442695040888963407
	return int(uint64(*r>>33) % uint64(n))
}

// plan is what the document's list says of an Op: which fields an instruction of it has.
type plan struct {
	a, b, k, name, args bool
}

// plans are those of all Ops, from 1 on.
var plans = [...]plan{
	api.IConst: {k: true},
	api.IAdd:   {a: true, b: true},
	api.ISub:   {a: true, b: true},
	api.IMul:   {a: true, b: true},
	api.IAnd:   {a: true, b: true},
	api.IOr:    {a: true, b: true},
	api.IXor:   {a: true, b: true},
	api.IShl:   {a: true, b: true},
	api.IShr:   {a: true, b: true},
	api.ILess:  {a: true, b: true},
	api.IEq:    {a: true, b: true},
	api.ILoad:  {name: true},
	api.IStore: {a: true, name: true},
	api.ICall:  {name: true, args: true},
	api.IRead:  {},
	api.IWrite: {a: true},
}

// planOf is that of an Op, and whether there is such a one.
func planOf(op int) (plan, bool) {
	if op < 1 || op > 16 {
		return plan{}, false
	}
	return plans[op], true
}

// count is n values 0.
func count(n int) []int {
	return make([]int, n)
}

// konst is an instruction that gives a number.
func konst(k uint64) api.Inst {
	return api.Inst{Op: api.IConst, K: k}
}

// ret is an end that gives back a value.
func ret(a int) api.Term {
	return api.Term{Kind: api.TRet, A: a}
}

// jump is an end that goes to a block.
func jump(to int, args ...int) api.Term {
	return api.Term{Kind: api.TJump, To: to, Args: args}
}

// seven is the document's function: main gives back 7.
func seven(name string) api.Func {
	return api.Func{Name: name, Bind: api.BStrong, Blocks: []api.Block{{Ins: []api.Inst{konst(7)}, End: ret(0)}}}
}

// long is a function with as much of all as may be: 16 blocks of 32 instructions, each handed six values.
func long() api.Func {
	f := api.Func{Name: "sixteen_bytes_16", Bind: api.BLocal, Params: 6}
	for at := range 16 {
		b := api.Block{Params: 6, End: jump((at+1)%16, 0, 5, 6, 37, 37, 20)}
		for k := range 32 {
			b.Ins = append(b.Ins, api.Inst{Op: api.IAdd, A: k + 5, B: 5})
		}
		f.Blocks = append(f.Blocks, b)
	}
	f.Blocks[15].End = api.Term{Kind: api.TIf, A: 37, To: 15, Args: []int{0, 1, 2, 3, 4, 37}, Else: 0, Elses: []int{37, 0, 0, 0, 0, 0}}
	return f
}

// each is a function of three blocks, with an instruction of each Op and an end of each kind.
func each() api.Func {
	return api.Func{Name: "each", Bind: api.BWeak, Params: 2, Blocks: []api.Block{
		{Params: 2, Ins: []api.Inst{
			{Op: api.IAdd, A: 0, B: 1}, {Op: api.ISub, A: 2, B: 0}, {Op: api.IMul, A: 3, B: 3}, {Op: api.IAnd, A: 1, B: 4}, {Op: api.IOr, A: 0, B: 5},
			{Op: api.IXor, A: 6, B: 6}, {Op: api.IShl, A: 7, B: 1}, {Op: api.IShr, A: 8, B: 0}, {Op: api.ILess, A: 9, B: 8}, {Op: api.IEq, A: 0, B: 10},
		}, End: api.Term{Kind: api.TIf, A: 11, To: 1, Args: []int{0}, Else: 2, Elses: []int{1, 11}}},
		{Params: 1, Ins: []api.Inst{
			{Op: api.ILoad, Name: "here"}, {Op: api.IStore, A: 1, Name: "away"}, {Op: api.ICall, Name: "seven"}, {Op: api.ICall, Name: "each", Args: []int{3, 0}},
		}, End: jump(2, 4, 0)},
		{Params: 2, Ins: []api.Inst{{Op: api.IRead}, {Op: api.IWrite, A: 2}, konst(1<<64 - 1)}, End: ret(4)},
	}}
}

// whole is a module that is right, with functions and globals of all sorts.
func whole() api.Module {
	return api.Module{
		Funcs: []api.Func{
			seven("seven"), long(), each(),
			{Name: "elsewhere", Bind: api.BStrong, Params: 6},
			{Name: "weak", Bind: api.BWeak},
			{Name: "caller", Bind: api.BLocal, Params: 1, Blocks: []api.Block{{Params: 1, Ins: []api.Inst{
				{Op: api.ICall, Name: "elsewhere", Args: []int{0, 0, 0, 0, 0, 0}}, {Op: api.IStore, A: 1, Name: "here"}, {Op: api.ICall, Name: "weak"},
			}, End: ret(3)}}},
		},
		Globs: []api.Glob{
			{Name: "here", Bind: api.BLocal, Here: true, Init: 9},
			{Name: "away", Bind: api.BStrong},
			{Name: "weakly_away", Bind: api.BWeak},
			{Name: "\x00", Bind: api.BStrong, Here: true},
		},
	}
}

// copiedFunc is a function that shares no memory with f.
func copiedFunc(f api.Func) api.Func {
	f.Blocks = slices.Clone(f.Blocks)
	for at := range f.Blocks {
		b := &f.Blocks[at]
		b.Ins = slices.Clone(b.Ins)
		for k := range b.Ins {
			b.Ins[k].Args = slices.Clone(b.Ins[k].Args)
		}
		b.End.Args = slices.Clone(b.End.Args)
		b.End.Elses = slices.Clone(b.End.Elses)
	}
	return f
}

// copied is a module that shares no memory with m.
func copied(m api.Module) api.Module {
	k := api.Module{Globs: slices.Clone(m.Globs)}
	for _, f := range m.Funcs {
		k.Funcs = append(k.Funcs, copiedFunc(f))
	}
	return k
}

// told is all that stands in a function or a module, as a text.
func told(x any) string {
	return fmt.Sprintf("%#v", x)
}

// funcRow is a function, and what it is.
type funcRow struct {
	why string
	f   api.Func
}

// goodFuncs are functions that are right: ordinary ones, and the edges.
func goodFuncs() []funcRow {
	rows := []funcRow{
		{"the document's", seven("main")},
		{"as much as may be", long()},
		{"an instruction of each Op", each()},
		{"Name of one byte", seven("\x00")},
		{"Name of MaxName bytes", seven(strings.Repeat("n", 16))},
		{"Name of bytes that are no letters", seven("\xff\xfe \n")},
		{"Name of MaxName bytes, fewer letters", seven("éééééééé")},
		{"a block of no instruction", api.Func{Name: "f", Bind: 1, Params: 1, Blocks: []api.Block{{Params: 1, End: ret(0)}}}},
		{"a block of nothing that goes round", api.Func{Name: "f", Bind: 1, Blocks: []api.Block{{End: jump(0)}}}},
		{"a block that nothing goes to", api.Func{Name: "f", Bind: 2, Blocks: []api.Block{seven("f").Blocks[0], {Params: 6, End: ret(5)}}}},
		{"TIf of one block twice", api.Func{Name: "f", Bind: 3, Params: 1, Blocks: []api.Block{{Params: 1, End: api.Term{Kind: api.TIf, Args: []int{0}, Elses: []int{0}}}}}},
		{"no blocks, strong", api.Func{Name: "f", Bind: api.BStrong, Params: 0}},
		{"no blocks, weak", api.Func{Name: "f", Bind: api.BWeak, Params: 6, Blocks: []api.Block{}}},
	}
	for bind := 1; bind <= 3; bind++ {
		f := seven("f")
		f.Bind = bind
		rows = append(rows, funcRow{fmt.Sprint("Bind ", bind), f})
	}
	for n := range 7 {
		first := api.Block{Params: n, Ins: []api.Inst{{Op: api.IRead}}, End: ret(n)}
		rows = append(rows, funcRow{fmt.Sprint("Params ", n), api.Func{Name: "f", Bind: 1, Params: n, Blocks: []api.Block{first}}})
	}
	return rows
}

// someRight is an instruction that is right among n values, and has one of these names.
func (r *row) someRight(n int, names []string) api.Inst {
	for {
		i := api.Inst{Op: 1 + r.below(16)}
		p := plans[i.Op]
		if n == 0 && (p.a || p.b) {
			continue
		}
		if p.a {
			i.A = r.below(n)
		}
		if p.b {
			i.B = r.below(n)
		}
		if p.k {
			i.K = uint64(r.below(1000))
		}
		if p.name {
			i.Name = names[r.below(len(names))]
		}
		if p.args && n > 0 {
			i.Args = r.some(n, r.below(7))
		}
		return i
	}
}

// some are so many values below n.
func (r *row) some(n, many int) []int {
	var l []int
	for range many {
		l = append(l, r.below(n))
	}
	return l
}

// someFunc is a function that is right, by the document's words, whose instructions have these names.
func (r *row) someFunc(name string, names []string) api.Func {
	f := api.Func{Name: name, Bind: 1 + r.below(3)}
	for range 1 + r.below(4) {
		b := api.Block{Params: r.below(7)}
		for range r.below(6) {
			b.Ins = append(b.Ins, r.someRight(b.Params+len(b.Ins), names))
		}
		if b.Params+len(b.Ins) == 0 {
			b.Ins = append(b.Ins, konst(1))
		}
		f.Blocks = append(f.Blocks, b)
	}
	f.Params = f.Blocks[0].Params
	for at := range f.Blocks {
		b := &f.Blocks[at]
		n := b.Params + len(b.Ins)
		b.End.Kind = 1 + r.below(3)
		if b.End.Kind != api.TRet {
			b.End.To = r.below(len(f.Blocks))
			b.End.Args = r.some(n, f.Blocks[b.End.To].Params)
		}
		if b.End.Kind != api.TJump {
			b.End.A = r.below(n)
		}
		if b.End.Kind == api.TIf {
			b.End.Else = r.below(len(f.Blocks))
			b.End.Elses = r.some(n, f.Blocks[b.End.Else].Params)
		}
	}
	return f
}

// someModule is a module that is right: its calls have as many values as they should, and its names are of what they should be.
func (r *row) someModule() api.Module {
	var m api.Module
	var funcs, globs []string
	for n := range 1 + r.below(5) {
		funcs = append(funcs, fmt.Sprint("f", n))
	}
	for n := range 1 + r.below(3) {
		globs = append(globs, fmt.Sprint("g", n))
		g := api.Glob{Name: globs[n], Bind: 1 + r.below(3), Here: r.below(2) == 0}
		if !g.Here && g.Bind == api.BLocal {
			g.Bind = api.BStrong
		}
		if g.Here {
			g.Init = uint64(r.below(100))
		}
		m.Globs = append(m.Globs, g)
	}
	for _, name := range funcs {
		f := r.someFunc(name, []string{"?"})
		if r.below(5) == 0 && f.Bind != api.BLocal {
			f.Blocks = nil
		}
		m.Funcs = append(m.Funcs, f)
	}
	r.giveNames(m, funcs, globs)
	return m
}

// giveNames gives the instructions of a module names of its own, and calls as many values as they should have.
func (r *row) giveNames(m api.Module, funcs, globs []string) {
	for _, f := range m.Funcs {
		for _, b := range f.Blocks {
			for k := range b.Ins {
				i := &b.Ins[k]
				switch p := plans[i.Op]; {
				case p.args:
					at := r.below(len(funcs))
					n := b.Params + k
					if n == 0 && m.Funcs[at].Params > 0 {
						*i = konst(3)
						continue
					}
					i.Name = funcs[at]
					i.Args = r.some(n, m.Funcs[at].Params)
				case p.name:
					i.Name = globs[r.below(len(globs))]
				}
			}
		}
	}
}

// expectFunc: Func answers that, and leaves what it was handed as it was.
func expectFunc(t *testing.T, why string, f api.Func, want bool) {
	t.Helper()
	before := told(f)
	if got := ir.Func(f); got != want {
		t.Errorf("%s: Func answers %v, not %v: %.500s", why, got, want, before)
	}
	if told(f) != before {
		t.Errorf("%s: Func wrote into what it was handed", why)
	}
}

// expectCheck: Check answers that, and leaves what it was handed as it was.
func expectCheck(t *testing.T, why string, m api.Module, want api.Errno) {
	t.Helper()
	before := told(m)
	if got := ir.Check(m); got != want {
		t.Errorf("%s: Check answers %d, not %d: %.500s", why, got, want, before)
	}
	if told(m) != before {
		t.Errorf("%s: Check wrote into what it was handed", why)
	}
}
