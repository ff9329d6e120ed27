package reach

import (
	"marline/api"
)

// entryName is that of the function with which a program begins: it is reached, however it binds.
const entryName = "main"

// byName is what stands for each of some names.
type byName[T any] map[string]T

// lack: does nothing stand for this name?
func (l byName[T]) lack(name string) bool {
	_, is := l[name]
	return !is
}

// among are some names, to be asked for.
func among(l []string) byName[struct{}] {
	out := byName[struct{}]{}
	for _, name := range l {
		out[name] = struct{}{}
	}
	return out
}

// firstsOf are the first functions of all names in a module.
func firstsOf(m api.Module) byName[api.Func] {
	out := byName[api.Func]{}
	for _, f := range m.Funcs {
		if out.lack(f.Name) {
			out[f.Name] = f
		}
	}
	return out
}

// functions are the names of a module's functions, in order.
func functions(m api.Module) []string {
	var out []string
	for _, f := range m.Funcs {
		out = append(out, f.Name)
	}
	return out
}

// names are those of a module's functions, then of its globals, in order.
func names(m api.Module) []string {
	out := functions(m)
	for _, g := range m.Globs {
		out = append(out, g.Name)
	}
	return out
}

// calls are the names that a function calls, as often as it does.
func calls(f api.Func) []string {
	var out []string
	for _, b := range f.Blocks {
		for _, i := range b.Ins {
			if i.Op == api.ICall {
				out = append(out, i.Name)
			}
		}
	}
	return out
}
