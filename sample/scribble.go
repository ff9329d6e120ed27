package sample

import (
	"marline/api"
)

// Scribble writes x all over a list's memory, to its capacity: who shares it with another one is seen then.
func Scribble[T any](l []T, x T) {
	l = l[:cap(l)]
	for at := range l {
		l[at] = x
	}
}

// ScribbleFunc writes all over a function's memory.
func ScribbleFunc(f api.Func) {
	for _, b := range f.Blocks {
		ScribbleBlock(b)
	}
	Scribble(f.Blocks, api.Block{Params: -9})
}

// ScribbleBlock writes all over a block's memory.
func ScribbleBlock(b api.Block) {
	for _, i := range b.Ins {
		Scribble(i.Args, -9)
	}
	Scribble(b.Ins, api.Inst{Op: -9, Name: "scribbled"})
	Scribble(b.End.Args, -9)
	Scribble(b.End.Elses, -9)
}

// ScribbleModule writes all over a module's memory.
func ScribbleModule(m api.Module) {
	for _, f := range m.Funcs {
		ScribbleFunc(f)
	}
	Scribble(m.Funcs, api.Func{Name: "scribbled"})
	Scribble(m.Globs, api.Glob{Name: "scribbled"})
}
