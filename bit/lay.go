package bit

import (
	"strings"

	"marline/api"
)

// writer lays a module's parts, one behind the other.
type writer struct {
	strings.Builder
}

// numbers lays some.
func (w *writer) numbers(l ...uint64) {
	for _, v := range l {
		for ; v >= goesOn; v >>= bitsEach {
			w.WriteByte(byte(v) | goesOn)
		}
		w.WriteByte(byte(v))
	}
}

// text lays one.
func (w *writer) text(s string) {
	w.numbers(uint64(len(s)))
	w.WriteString(s)
}

// layRow lays how many there are, and each one.
func layRow[T any](w *writer, l []T, lay func(T)) {
	w.numbers(uint64(len(l)))
	for _, x := range l {
		lay(x)
	}
}

// module lays one that is right.
func (w *writer) module(m api.Module) {
	w.WriteString(begins)
	layRow(w, m.Funcs, func(f api.Func) {
		w.text(f.Name)
		w.numbers(uint64(f.Bind), uint64(f.Params))
		w.blocks(f.Blocks)
	})
	layRow(w, m.Globs, func(g api.Glob) {
		var here uint64
		if g.Here {
			here = 1
		}
		w.text(g.Name)
		w.numbers(uint64(g.Bind), here, g.Init)
	})
}

// blocks lays a function's.
func (w *writer) blocks(l []api.Block) {
	layRow(w, l, func(b api.Block) {
		w.numbers(uint64(b.Params))
		layRow(w, b.Ins, w.inst)
		w.end(b.End)
	})
}

// inst lays an instruction: of its fields those that its Op has.
func (w *writer) inst(i api.Inst) {
	w.numbers(uint64(i.Op))
	switch i.Op {
	case api.IConst:
		w.numbers(i.K)
	case api.IAdd, api.ISub, api.IMul, api.IAnd, api.IOr, api.IXor, api.IShl, api.IShr, api.ILess, api.IEq:
		w.numbers(uint64(i.A), uint64(i.B))
	case api.ILoad:
		w.text(i.Name)
	case api.IStore:
		w.numbers(uint64(i.A))
		w.text(i.Name)
	case api.ICall:
		w.text(i.Name)
		w.values(i.Args)
	case api.IWrite:
		w.numbers(uint64(i.A))
	}
}

// end lays a block's: of its fields those that its Kind has.
func (w *writer) end(t api.Term) {
	w.numbers(uint64(t.Kind))
	switch t.Kind {
	case api.TJump:
		w.numbers(uint64(t.To))
		w.values(t.Args)
	case api.TIf:
		w.numbers(uint64(t.A), uint64(t.To))
		w.values(t.Args)
		w.numbers(uint64(t.Else))
		w.values(t.Elses)
	case api.TRet:
		w.numbers(uint64(t.A))
	}
}

// values lays a row of values.
func (w *writer) values(l []int) {
	layRow(w, l, func(v int) { w.numbers(uint64(v)) })
}
