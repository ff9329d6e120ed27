package sample

import (
	"strconv"

	"marline/api"
)

// Random gives numbers: the row of them that begins with one is always the same.
type Random uint64

// Below is a number below n.
func (r *Random) Below(n int) int {
	*r = *r*6364136223846793005 + 1442695040888963407
	return int(uint64(*r>>33) % uint64(n))
}

// OneOf is one of these texts.
func (r *Random) OneOf(l ...string) string {
	return l[r.Below(len(l))]
}

// Some are so many values below n.
func (r *Random) Some(n, many int) []int {
	var l []int
	for range many {
		l = append(l, r.Below(n))
	}
	return l
}

// Whole is a module that is whole, with functions of all sorts; what isn't there is weak, and nobody names it.
func (r *Random) Whole() api.Module {
	m := api.Module{Funcs: []api.Func{{Name: "main", Bind: 2 + r.Below(2)}}}
	for n := range r.Below(5) {
		m.Funcs = append(m.Funcs, api.Func{Name: r.OneOf("f", ".") + strconv.Itoa(n), Bind: 1 + r.Below(3), Params: r.Below(4)})
	}
	for n := range 1 + r.Below(4) {
		m.Globs = append(m.Globs, api.Glob{Name: "g" + strconv.Itoa(n), Bind: 1 + r.Below(3), Here: true, Init: uint64(r.Below(500))})
	}
	for at := range m.Funcs {
		m.Funcs[at].Blocks = r.Blocks(m.Funcs[at].Params, m)
	}
	m.Funcs = append(m.Funcs, api.Func{Name: "away", Bind: api.BWeak, Params: r.Below(7)})
	m.Globs = append(m.Globs, api.Glob{Name: "gone", Bind: api.BWeak})
	at := r.Below(len(m.Funcs)) // main isn't always the first
	m.Funcs[0], m.Funcs[at] = m.Funcs[at], m.Funcs[0]
	return m
}

// Blocks are those of a right function with so many Params that names what a module has (of functions and of globals at least one), as if all of it were here.
func (r *Random) Blocks(params int, m api.Module) []api.Block {
	l := make([]api.Block, 1+r.Below(3))
	for at := range l {
		l[at].Params = r.Below(4)
	}
	l[0].Params = params
	for at := range l {
		b := &l[at]
		b.Ins = append(b.Ins, api.Inst{Op: api.IConst, K: uint64(r.Below(1 << 20))})
		for range r.Below(7) {
			b.Ins = append(b.Ins, r.inst(b.Params+len(b.Ins), m))
		}
		b.End = r.end(b.Params+len(b.Ins), l)
	}
	return l
}

// inst is an instruction that is right among n values.
func (r *Random) inst(n int, m api.Module) api.Inst {
	a, b := r.Below(n), r.Below(n)
	name := m.Globs[r.Below(len(m.Globs))].Name
	switch op := 1 + r.Below(20); op {
	case api.IConst:
		return api.Inst{Op: op, K: uint64(r.Below(1 << 20))}
	case api.ILoad:
		return api.Inst{Op: op, Name: name}
	case api.IStore:
		return api.Inst{Op: op, Name: name, A: a}
	case api.IRead:
		return api.Inst{Op: op}
	case api.IWrite:
		return api.Inst{Op: op, A: a}
	case api.ICall, 17, 18, 19, 20: // as often as a few of the others together
		f := m.Funcs[r.Below(len(m.Funcs))]
		return api.Inst{Op: api.ICall, Name: f.Name, Args: r.Some(n, f.Params)}
	default:
		return api.Inst{Op: op, A: a, B: b}
	}
}

// end is one of a block with n values.
func (r *Random) end(n int, all []api.Block) api.Term {
	to, other := r.Below(len(all)), r.Below(len(all))
	switch r.Below(5) {
	case 0:
		return api.Term{Kind: api.TJump, To: to, Args: r.Some(n, all[to].Params)}
	case 1:
		return api.Term{Kind: api.TIf, A: r.Below(n), To: to, Args: r.Some(n, all[to].Params), Else: other, Elses: r.Some(n, all[other].Params)}
	}
	return api.Term{Kind: api.TRet, A: r.Below(n)}
}
