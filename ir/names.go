package ir

import (
	"marline/api"
)

// thing is what a name names: a function with so many Params, or a global.
type thing struct {
	function bool
	params   int
}

// rightAlone: is each function and each global right by itself?
func rightAlone(m api.Module) bool {
	for _, f := range m.Funcs {
		if !Func(f) {
			return false
		}
	}
	for _, g := range m.Globs {
		if !rightGlob(g) {
			return false
		}
	}
	return true
}

// rightGlob: is a global right?
func rightGlob(g api.Glob) bool {
	return mayName(g.Name) && mayBind(g.Bind) && (g.Here || g.Init == 0 && g.Bind != api.BLocal)
}

// named is what each name of a module names, unless one names two.
func named(m api.Module) (map[string]thing, api.Errno) {
	names := map[string]thing{}
	for _, f := range m.Funcs {
		names[f.Name] = thing{function: true, params: f.Params}
	}
	for _, g := range m.Globs {
		names[g.Name] = thing{}
	}
	if len(names) < len(m.Funcs)+len(m.Globs) {
		return nil, api.ErrTwice
	}
	return names, api.OK
}

// found: has each instruction a name of what it asks for, with as many Args as that has Params?
func found(m api.Module, names map[string]thing) api.Errno {
	e := api.OK
	for _, f := range m.Funcs {
		for _, i := range insts(f) {
			if !hasName(i.Op) {
				continue
			}
			x, there := names[i.Name]
			switch {
			case !there, x.function != (i.Op == api.ICall):
				return api.ErrNone
			case x.function && x.params != len(i.Args):
				e = api.ErrArg // told if no name is missing further on
			}
		}
	}
	return e
}
