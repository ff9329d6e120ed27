package eval_test

import (
	"fmt"
	"math/big"
	"slices"
	"testing"

	"marline/api"
	"marline/eval"
	"marline/ir"
)

// random gives numbers: each row of them is always the same.
type random uint64

// below is a number below n.
func (r *random) below(n int) int {
	*r = *r*6364136223846793005 + 1442695040888963407
	return int(uint64(*r>>33) % uint64(n))
}

// wide is a number of any size: of so many bits, as a rule.
func (r *random) wide() uint64 {
	v := uint64(r.below(1<<31))<<33 ^ uint64(r.below(1<<31))<<2 ^ uint64(r.below(4))
	return v >> r.below(64)
}

// some are so many values below n.
func (r *random) some(n, many int) []int {
	var l []int
	for range many {
		l = append(l, r.below(n))
	}
	return l
}

// konst is an instruction that gives a number.
func konst(k uint64) api.Inst {
	return api.Inst{Op: api.IConst, K: k}
}

// two is an instruction that uses two values.
func two(op, a, b int) api.Inst {
	return api.Inst{Op: op, A: a, B: b}
}

// load is an instruction that gives a global's value.
func load(name string) api.Inst {
	return api.Inst{Op: api.ILoad, Name: name}
}

// store is an instruction that changes a global.
func store(a int, name string) api.Inst {
	return api.Inst{Op: api.IStore, A: a, Name: name}
}

// call is an instruction that calls a function.
func call(name string, args ...int) api.Inst {
	return api.Inst{Op: api.ICall, Name: name, Args: args}
}

// read is an instruction that takes a byte.
func read() api.Inst {
	return api.Inst{Op: api.IRead}
}

// write is an instruction that writes one.
func write(a int) api.Inst {
	return api.Inst{Op: api.IWrite, A: a}
}

// ret is an end that gives back a value.
func ret(a int) api.Term {
	return api.Term{Kind: api.TRet, A: a}
}

// jump is an end that goes to a block.
func jump(to int, args ...int) api.Term {
	return api.Term{Kind: api.TJump, To: to, Args: args}
}

// either is an end that goes to one block or another.
func either(a, to int, args []int, other int, others []int) api.Term {
	return api.Term{Kind: api.TIf, A: a, To: to, Args: args, Else: other, Elses: others}
}

// block is one with these instructions.
func block(params int, end api.Term, ins ...api.Inst) api.Block {
	return api.Block{Params: params, Ins: ins, End: end}
}

// function is one of these blocks.
func function(name string, blocks ...api.Block) api.Func {
	f := api.Func{Name: name, Bind: api.BStrong, Blocks: blocks}
	if len(blocks) > 0 {
		f.Params = blocks[0].Params
	}
	return f
}

// line is a function of one block that is handed nothing, and gives back its last value.
func line(name string, ins ...api.Inst) api.Func {
	return function(name, block(0, ret(len(ins)-1), ins...))
}

// glob is a global that is here.
func glob(name string, init uint64) api.Glob {
	return api.Glob{Name: name, Bind: api.BStrong, Here: true, Init: init}
}

// module is one of these functions, and of no globals.
func module(funcs ...api.Func) api.Module {
	return api.Module{Funcs: funcs}
}

// seven is the document's example.
func seven() api.Module {
	return module(line("main", konst(7)))
}

// copied is a module that shares no memory with m.
func copied(m api.Module) api.Module {
	k := api.Module{Funcs: slices.Clone(m.Funcs), Globs: slices.Clone(m.Globs)}
	for at := range k.Funcs {
		f := &k.Funcs[at]
		f.Blocks = slices.Clone(f.Blocks)
		for at := range f.Blocks {
			b := &f.Blocks[at]
			b.Ins = slices.Clone(b.Ins)
			for at := range b.Ins {
				b.Ins[at].Args = slices.Clone(b.Ins[at].Args)
			}
			b.End.Args, b.End.Elses = slices.Clone(b.End.Args), slices.Clone(b.End.Elses)
		}
	}
	return k
}

// told is all that stands in a module, as a text; it's of no account whether a list without elements is nil.
func told(m api.Module) string {
	return fmt.Sprintf("%+v", m)
}

// shown is a trace, as a text of plain letters.
func shown(x api.Trace) string {
	return fmt.Sprintf("%+.300q", fmt.Sprintf("%+v", x))
}

// worth is what Reckon answers by the chapter's words, on whole numbers.
func worth(op int, a, b uint64) uint64 {
	x, y, z := new(big.Int).SetUint64(a), new(big.Int).SetUint64(b), new(big.Int)
	moved := uint(new(big.Int).Mod(y, big.NewInt(64)).Uint64())
	one := func(is bool) {
		if is {
			z.SetInt64(1)
		}
	}
	switch op {
	case api.IAdd:
		z.Add(x, y)
	case api.ISub:
		z.Sub(x, y)
	case api.IMul:
		z.Mul(x, y)
	case api.IAnd:
		z.And(x, y)
	case api.IOr:
		z.Or(x, y)
	case api.IXor:
		z.Xor(x, y)
	case api.IShl:
		z.Lsh(x, moved)
	case api.IShr:
		z.Rsh(x, moved)
	case api.ILess:
		one(x.Cmp(y) < 0)
	case api.IEq:
		one(x.Cmp(y) == 0)
	}
	return z.Mod(z, new(big.Int).Lsh(big.NewInt(1), 64)).Uint64()
}

// defines: is something of that name here, a function with blocks or a global?
func defines(m api.Module, name string) bool {
	for _, f := range m.Funcs {
		if f.Name == name {
			return len(f.Blocks) > 0
		}
	}
	for _, g := range m.Globs {
		if g.Name == name {
			return g.Here
		}
	}
	return false
}

// wholeness is what Whole answers by the chapter's words.
func wholeness(m api.Module) api.Errno {
	if e := ir.Check(m); e != api.OK {
		return e
	}
	at := slices.IndexFunc(m.Funcs, func(f api.Func) bool { return f.Name == "main" })
	if at < 0 || len(m.Funcs[at].Blocks) == 0 || m.Funcs[at].Params != 0 {
		return api.ErrEntry
	}
	for _, f := range m.Funcs {
		for _, b := range f.Blocks {
			for _, i := range b.Ins {
				if (i.Op == api.ICall || i.Op == api.ILoad || i.Op == api.IStore) && !defines(m, i.Name) {
					return api.ErrNone
				}
			}
		}
	}
	return api.OK
}

// stop is an error at which a run is over.
type stop api.Errno

// slow is a run by the chapter's words: each of its calls is a call of its own.
type slow struct {
	m          api.Module
	in         string
	fuel, deep int
	globs      []uint64
	open       int
	t          api.Trace
}

// ran is what Run answers by the chapter's words.
func ran(m api.Module, in string, fuel, deep int) (t api.Trace, e api.Errno) {
	if fuel < 0 || fuel > 100000 || deep < 1 || deep > 64 {
		return t, api.ErrArg
	}
	if e := wholeness(m); e != api.OK {
		return t, e
	}
	s := slow{m: m, in: in, fuel: fuel, deep: deep}
	for _, g := range m.Globs {
		s.globs = append(s.globs, g.Init)
	}
	defer func() {
		if x := recover(); x != nil {
			t, e = s.t, api.Errno(x.(stop))
		}
	}()
	s.t.Code = s.called("main", nil)
	s.t.Ended = true
	return s.t, api.OK
}

// step is one more.
func (s *slow) step() {
	if s.t.Steps == s.fuel {
		panic(stop(api.ErrFuel))
	}
	s.t.Steps++
}

// called is what a function gives back.
func (s *slow) called(name string, values []uint64) uint64 {
	at := slices.IndexFunc(s.m.Funcs, func(f api.Func) bool { return f.Name == name })
	f := s.m.Funcs[at]
	s.open++
	s.t.Deep = max(s.t.Deep, s.open)
	b := 0
	for {
		for _, i := range f.Blocks[b].Ins {
			s.step()
			values = append(values, s.value(i, values))
		}
		s.step()
		end := f.Blocks[b].End
		to, args := end.To, end.Args
		switch {
		case end.Kind == api.TRet:
			s.open--
			return values[end.A]
		case end.Kind == api.TIf && values[end.A] == 0:
			to, args = end.Else, end.Elses
		}
		b, values = to, among(values, args)
	}
}

// among are some of these values.
func among(values []uint64, which []int) []uint64 {
	l := []uint64{}
	for _, v := range which {
		l = append(l, values[v])
	}
	return l
}

// value is what an instruction gives.
func (s *slow) value(i api.Inst, values []uint64) uint64 {
	at := slices.IndexFunc(s.m.Globs, func(g api.Glob) bool { return g.Name == i.Name })
	switch i.Op {
	case api.IConst:
		return i.K
	case api.ILoad:
		return s.globs[at]
	case api.IStore:
		s.globs[at] = values[i.A]
	case api.ICall:
		if s.open+1 > s.deep {
			panic(stop(api.ErrDeep))
		}
		return s.called(i.Name, among(values, i.Args))
	case api.IRead:
		if s.t.Read == len(s.in) {
			return 256
		}
		s.t.Read++
		return uint64(s.in[s.t.Read-1])
	case api.IWrite:
		s.t.Out += string([]byte{byte(values[i.A] % 256)})
	default:
		return worth(i.Op, values[i.A], values[i.B])
	}
	return 0
}

// expectRun: Run answers that, and leaves what it was handed as it was.
func expectRun(t *testing.T, why string, m api.Module, in string, fuel, deep int, want api.Trace, wantE api.Errno) {
	t.Helper()
	before := told(m)
	for range 2 { // the second one shows what the first one kept
		if x, e := eval.Run(m, in, fuel, deep); x != want || e != wantE {
			t.Errorf("%s: Run with fuel %d, deep %d, answers %s, %d, not %s, %d: %.500s", why, fuel, deep, shown(x), e, shown(want), wantE, before)
		}
	}
	if told(m) != before {
		t.Errorf("%s: Run wrote into what it was handed", why)
	}
}

// expectWhole: Whole answers that, leaves what it was handed as it was, and Run refuses likewise.
func expectWhole(t *testing.T, why string, m api.Module, want api.Errno) {
	t.Helper()
	before := told(m)
	for range 2 {
		if e := eval.Whole(m); e != want {
			t.Errorf("%s: Whole answers %d, not %d: %.500s", why, e, want, before)
		}
	}
	if told(m) != before {
		t.Errorf("%s: Whole wrote into what it was handed", why)
	}
	if want != api.OK {
		expectRun(t, why, m, "in", 1000, 8, api.Trace{}, want)
	}
}
