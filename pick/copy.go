package pick

import (
	"slices"

	"marline/api"
)

// copied is the same module; it shares no memory with m, so that whoever has the one may write into it.
func copied(m api.Module) api.Module {
	m.Funcs, m.Globs = slices.Clone(m.Funcs), slices.Clone(m.Globs)
	for at := range m.Funcs {
		m.Funcs[at].Blocks = copiedBlocks(m.Funcs[at].Blocks)
	}
	return m
}

// copiedBlocks are the same blocks.
func copiedBlocks(l []api.Block) []api.Block {
	l = slices.Clone(l)
	for at := range l {
		b := &l[at]
		b.Ins = slices.Clone(b.Ins)
		for k := range b.Ins {
			b.Ins[k].Args = slices.Clone(b.Ins[k].Args)
		}
		b.End.Args, b.End.Elses = slices.Clone(b.End.Args), slices.Clone(b.End.Elses)
	}
	return l
}
