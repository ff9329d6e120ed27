package eval_test

import (
	"fmt"
	"slices"

	"marline/api"
)

// module is one that is whole: its calls have as many values as they should, and what it names is here.
func (r *random) module() api.Module {
	m := module(function("main", api.Block{}))
	for n := range 1 + r.below(4) {
		m.Globs = append(m.Globs, glob(fmt.Sprint("g", n), r.wide()))
	}
	for n := range r.below(4) {
		m.Funcs = append(m.Funcs, function(fmt.Sprint("f", n), api.Block{Params: r.below(7)}))
	}
	for at := range m.Funcs {
		m.Funcs[at].Blocks = r.blocks(m.Funcs[at].Params, m)
		m.Funcs[at].Bind = 1 + r.below(3)
	}
	m.Funcs = append(m.Funcs, api.Func{Name: "away", Bind: api.BWeak, Params: r.below(7)})
	m.Globs = append(m.Globs, api.Glob{Name: "gone", Bind: api.BStrong})
	at := r.below(len(m.Funcs)) // main isn't always the first
	m.Funcs[0], m.Funcs[at] = m.Funcs[at], m.Funcs[0]
	return m
}

// blocks are those of a function with so many Params, in a module that has these names, all of them here.
func (r *random) blocks(params int, m api.Module) []api.Block {
	l := make([]api.Block, 1+r.below(4))
	for at := range l {
		l[at].Params = r.below(4)
	}
	l[0].Params = params
	for at := range l {
		b := &l[at]
		b.Ins = append(b.Ins, konst(r.wide()))
		for range r.below(7) {
			b.Ins = append(b.Ins, r.inst(b.Params+len(b.Ins), m))
		}
		b.End = r.end(b.Params+len(b.Ins), l)
	}
	return l
}

// inst is an instruction that is right among n values.
func (r *random) inst(n int, m api.Module) api.Inst {
	a, b := r.below(n), r.below(n)
	name := m.Globs[r.below(len(m.Globs))].Name
	switch op := 1 + r.below(16); op {
	case api.IConst:
		return konst(r.wide())
	case api.ILoad:
		return load(name)
	case api.IStore:
		return store(a, name)
	case api.ICall:
		f := m.Funcs[r.below(len(m.Funcs))]
		return call(f.Name, r.some(n, f.Params)...)
	case api.IRead:
		return read()
	case api.IWrite:
		return write(a)
	default:
		return two(op, a, b)
	}
}

// end is one of a block with n values.
func (r *random) end(n int, all []api.Block) api.Term {
	to, other := r.below(len(all)), r.below(len(all))
	switch r.below(4) {
	case 0:
		return jump(to, r.some(n, all[to].Params)...)
	case 1:
		return either(r.below(n), to, r.some(n, all[to].Params), other, r.some(n, all[other].Params))
	}
	return ret(r.below(n))
}

// input is a text to be read.
func (r *random) input() string {
	b := make([]byte, r.below(6))
	for at := range b {
		b[at] = byte(r.below(256))
	}
	return string(b)
}

// spoil changes something of a module, so that it isn't whole, as a rule.
func (r *random) spoil(m *api.Module) {
	f := &m.Funcs[r.below(len(m.Funcs))]
	g := &m.Globs[r.below(len(m.Globs))]
	wild := []int{-1 << 63, -1, 0, 1, 2, 3, 7, 17, 38, 1<<63 - 1}[r.below(10)]
	switch r.below(8) {
	case 0:
		f.Name = []string{"", "main", "Main", "g0", "f0"}[r.below(5)]
	case 1:
		f.Params = wild
	case 2:
		f.Blocks = nil
	case 3:
		g.Here, g.Init = false, 0
	case 4:
		m.Funcs = slices.Delete(m.Funcs, 0, 1)
	case 5:
		m.Globs = nil
	default:
		if len(f.Blocks) > 0 {
			r.spoilBlock(&f.Blocks[r.below(len(f.Blocks))], wild)
		}
	}
}

// spoilBlock changes something of a block.
func (r *random) spoilBlock(b *api.Block, wild int) {
	i := &b.Ins[r.below(len(b.Ins))]
	switch r.below(9) {
	case 0:
		b.Params = wild
	case 1:
		*i = call("away")
	case 2:
		*i = load("gone")
	case 3:
		*i = call("nobody")
	case 4:
		i.A = wild
	case 5:
		i.Op = wild
	case 6:
		b.End.To = wild
	case 7:
		b.End.Kind = wild
	case 8:
		b.End.A = wild
	}
}
