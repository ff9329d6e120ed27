package eval

import (
	"marline/api"
	"marline/ir"
)

// How many bits a value has.
const valueBits = 64

// noByte is what is read where nothing is left.
const noByte = 256

// call is one that is open: its function's blocks, which of them it is in, which instruction is next, and the values that are known.
type call struct {
	blocks []api.Block
	at     int
	next   int
	values []uint64
}

// run is what a run of a whole module has come to: its trace but for Out, which grows by itself, and the calls that are open, of which the last one goes on.
type run struct {
	trace api.Trace
	out   []byte
	in    string
	funcs map[string][]api.Block
	globs map[string]uint64
	open  []call
}

// begun is a run whose main is called.
func begun(m api.Module, in string) run {
	r := run{in: in, funcs: map[string][]api.Block{}, globs: map[string]uint64{}}
	for _, f := range m.Funcs {
		r.funcs[f.Name] = f.Blocks
	}
	for _, g := range m.Globs {
		r.globs[g.Name] = g.Init
	}
	r.call(mainName, nil)
	return r
}

// goOn makes steps till the run is over.
func (r *run) goOn(fuel, deep int) api.Errno {
	step := func() bool {
		if r.trace.Steps == fuel {
			return false
		}
		r.trace.Steps++
		return true
	}
calls:
	for len(r.open) > 0 {
		c := &r.open[len(r.open)-1]
		b := c.blocks[c.at]
		for c.next < len(b.Ins) {
			if !step() {
				return api.ErrFuel
			}
			i := b.Ins[c.next]
			c.next++
			if i.Op != api.ICall {
				c.values = append(c.values, r.value(i, c.values))
				continue
			}
			if len(r.open) == deep {
				return api.ErrDeep
			}
			r.call(i.Name, c.known(i.Args))
			continue calls
		}
		if !step() {
			return api.ErrFuel
		}
		r.end(c, b.End)
	}
	return api.OK
}

// call opens a call of a function, whose first block is handed these values.
func (r *run) call(name string, handed []uint64) {
	r.open = append(r.open, call{blocks: r.funcs[name]})
	r.open[len(r.open)-1].enter(0, handed)
	r.trace.Deep = max(r.trace.Deep, len(r.open))
}

// value is what an instruction gives that is no call.
func (r *run) value(i api.Inst, values []uint64) uint64 {
	switch i.Op {
	case api.IConst:
		return i.K
	case api.ILoad:
		return r.globs[i.Name]
	case api.IStore:
		r.globs[i.Name] = values[i.A]
		return 0
	case api.IRead:
		return r.read()
	case api.IWrite:
		r.out = append(r.out, byte(values[i.A]))
		return 0
	}
	return Reckon(i.Op, values[i.A], values[i.B])
}

// read takes the next byte, if there is one.
func (r *run) read() uint64 {
	if r.trace.Read == len(r.in) {
		return noByte
	}
	v := r.in[r.trace.Read]
	r.trace.Read++
	return uint64(v)
}

// end does what the end of a call's block says.
func (r *run) end(c *call, t api.Term) {
	goes := func(to int, args []int) {
		c.enter(to, c.known(args))
	}
	switch t.Kind {
	case api.TRet:
		r.giveBack(c.values[t.A])
	case api.TIf:
		if c.values[t.A] == 0 {
			goes(t.Else, t.Elses)
			break
		}
		fallthrough // it goes to To then, as a jump does
	case api.TJump:
		goes(t.To, t.Args)
	}
}

// giveBack closes the last call: who called it has its value then, or the run has ended.
func (r *run) giveBack(v uint64) {
	r.open = r.open[:len(r.open)-1]
	if len(r.open) == 0 {
		r.trace.Ended, r.trace.Code = true, v
		return
	}
	c := &r.open[len(r.open)-1]
	c.values = append(c.values, v)
}

// enter begins a block, of which nothing is known yet but what it is handed.
func (c *call) enter(at int, handed []uint64) {
	c.at, c.next = at, 0
	c.values = append(make([]uint64, 0, ir.Values(c.blocks[at])), handed...)
}

// known are some of the values that are known, in that order.
func (c *call) known(which []int) []uint64 {
	l := make([]uint64, len(which))
	for at, v := range which {
		l[at] = c.values[v]
	}
	return l
}
