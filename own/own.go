// Package own makes copies that share no memory with what they were made of: whoever has the one may write into it. All layers that answer modules, or parts of them, lean on it.
package own

import (
	"slices"

	"marline/api"
)

// Module is a copy of a module.
func Module(m api.Module) api.Module {
	return api.Module{Funcs: Each(m.Funcs, Func), Globs: slices.Clone(m.Globs)}
}

// Func is a copy of a function.
func Func(f api.Func) api.Func {
	f.Blocks = Each(f.Blocks, Block)
	return f
}

// Block is a copy of a block.
func Block(b api.Block) api.Block {
	b.Ins = Each(b.Ins, inst)
	b.End.Args = slices.Clone(b.End.Args)
	b.End.Elses = slices.Clone(b.End.Elses)
	return b
}

// inst is a copy of an instruction.
func inst(i api.Inst) api.Inst {
	i.Args = slices.Clone(i.Args)
	return i
}

// Each is a list, in memory of its own, of what becomes of each in another one.
func Each[T any](l []T, one func(T) T) []T {
	l = slices.Clone(l)
	for at := range l {
		l[at] = one(l[at])
	}
	return l
}
