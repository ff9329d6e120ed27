package bit

import (
	"math"

	"marline/api"
)

// reader takes a module's parts, one after the other. Its first error stays: from then on each number is 0, each text and each row is empty, so that the whole comes to its end whatever the bytes are.
type reader struct {
	rest string
	e    api.Errno
}

// refuse is an error, if there was none ahead of it.
func (r *reader) refuse(e api.Errno) {
	if r.e == api.OK {
		r.e = e
	}
}

// wide is the next number, however great.
func (r *reader) wide() uint64 {
	if r.e != api.OK {
		return 0
	}
	v, rest, e := TakeNum(r.rest)
	r.rest, r.e = rest, e
	return v
}

// between is the next number, which is least to most: else e, or ErrBig of a number that no place but a wide one may have.
func (r *reader) between(least, most uint64, e api.Errno) int {
	v := r.wide()
	switch {
	case v > math.MaxUint32:
		r.refuse(api.ErrBig)
	case v < least, v > most:
		r.refuse(e)
	}
	if r.e != api.OK {
		return 0
	}
	return int(v)
}

// number is the next one.
func (r *reader) number() int {
	return r.between(0, math.MaxUint32, api.ErrBig)
}

// count is how many there are, which are at most so many.
func (r *reader) count(most uint64) int {
	return r.between(0, most, api.ErrBig)
}

// text is the next one.
func (r *reader) text() string {
	n := r.count(api.MaxName)
	if n > len(r.rest) {
		r.refuse(api.ErrMore)
		return ""
	}
	s := r.rest[:n]
	r.rest = r.rest[n:]
	return s
}

// takeRow is the next row, of at most so many, each of which is taken so.
func takeRow[T any](r *reader, most uint64, take func() T) []T {
	var l []T
	for range r.count(most) {
		l = append(l, take())
	}
	return l
}

// module is the whole one, behind what it begins with.
func (r *reader) module() api.Module {
	var m api.Module
	m.Funcs = takeRow(r, api.MaxFuncs, r.function)
	m.Globs = takeRow(r, api.MaxGlobs, r.glob)
	return m
}

// function is the next one.
func (r *reader) function() api.Func {
	var f api.Func
	f.Name = r.text()
	f.Bind = r.number()
	f.Params = r.number()
	f.Blocks = takeRow(r, api.MaxBlocks, r.block)
	return f
}

// glob is the next global.
func (r *reader) glob() api.Glob {
	var g api.Glob
	g.Name = r.text()
	g.Bind = r.number()
	g.Here = r.between(0, 1, api.ErrForm) == 1
	g.Init = r.wide()
	return g
}

// block is the next one.
func (r *reader) block() api.Block {
	var b api.Block
	b.Params = r.number()
	b.Ins = takeRow(r, api.MaxInsts, r.inst)
	b.End = r.end()
	return b
}

// inst is the next instruction.
func (r *reader) inst() api.Inst {
	i := api.Inst{Op: r.between(api.IConst, api.IWrite, api.ErrForm)}
	switch i.Op {
	case api.IConst:
		i.K = r.wide()
	case api.IAdd, api.ISub, api.IMul, api.IAnd, api.IOr, api.IXor, api.IShl, api.IShr, api.ILess, api.IEq:
		i.A = r.number()
		i.B = r.number()
	case api.ILoad:
		i.Name = r.text()
	case api.IStore:
		i.A = r.number()
		i.Name = r.text()
	case api.ICall:
		i.Name = r.text()
		i.Args = r.values()
	case api.IWrite:
		i.A = r.number()
	}
	return i
}

// end is the next block's.
func (r *reader) end() api.Term {
	t := api.Term{Kind: r.between(api.TJump, api.TRet, api.ErrForm)}
	switch t.Kind {
	case api.TJump:
		t.To = r.number()
		t.Args = r.values()
	case api.TIf:
		t.A = r.number()
		t.To = r.number()
		t.Args = r.values()
		t.Else = r.number()
		t.Elses = r.values()
	case api.TRet:
		t.A = r.number()
	}
	return t
}

// values is the next row of values.
func (r *reader) values() []int {
	return takeRow(r, api.MaxArgs, r.number)
}
