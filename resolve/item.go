package resolve

import (
	"iter"

	"marline/api"
)

// kind is what may not differ among the items of a name: whether they are functions, with how many Params.
type kind struct {
	function bool
	params   int
}

// item is a function or a global that has a shared name: in which module, how it binds, whether it is there.
type item struct {
	name string
	mod  int
	kind kind
	bind int
	here bool
}

// defines: is it a definition?
func (i item) defines() bool {
	return i.here
}

// strong: does it ask for a definition, or is it one that no other one may stand beside?
func (i item) strong() bool {
	return i.bind == api.BStrong
}

// settles: is it the definition, whatever other items there are?
func (i item) settles() bool {
	return i.defines() && i.strong()
}

// ofFunc is a function of a module as an item.
func ofFunc(f api.Func, mod int) item {
	return item{name: f.Name, mod: mod, kind: kind{function: true, params: f.Params}, bind: f.Bind, here: len(f.Blocks) > 0}
}

// ofGlob is a global of a module as an item.
func ofGlob(g api.Glob, mod int) item {
	return item{name: g.Name, mod: mod, bind: g.Bind, here: g.Here}
}

// items are those of all modules, module by module, functions ahead of globals.
func items(l []api.Module) iter.Seq[item] {
	return func(yield func(item) bool) {
		for mod, m := range l {
			for _, f := range m.Funcs {
				if f.Bind != api.BLocal && !yield(ofFunc(f, mod)) {
					return
				}
			}
			for _, g := range m.Globs {
				if g.Bind != api.BLocal && !yield(ofGlob(g, mod)) {
					return
				}
			}
		}
	}
}
