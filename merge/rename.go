package merge

import (
	"slices"

	"marline/api"
)

// renamed is a function, in memory of its own, with the names that name tells for its own ones.
func renamed(f api.Func, name func(string) string) api.Func {
	f.Name = name(f.Name)
	f.Blocks = slices.Clone(f.Blocks)
	for at, b := range f.Blocks {
		f.Blocks[at] = renamedBlock(b, name)
	}
	return f
}

// renamedBlock is a block of such a function.
func renamedBlock(b api.Block, name func(string) string) api.Block {
	b.Ins = slices.Clone(b.Ins)
	for at, i := range b.Ins {
		i.Name = name(i.Name)
		i.Args = slices.Clone(i.Args)
		b.Ins[at] = i
	}
	b.End.Args = slices.Clone(b.End.Args)
	b.End.Elses = slices.Clone(b.End.Elses)
	return b
}
