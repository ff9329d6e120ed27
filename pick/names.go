package pick

import (
	"marline/api"
)

// told are the names of a module's functions, then of its globals, that are chosen by whether they are here and by how they bind.
func told(m api.Module, chosen func(here bool, bind int) bool) []string {
	funcs := names(m.Funcs, func(f api.Func) (string, bool) {
		return f.Name, chosen(len(f.Blocks) > 0, f.Bind)
	})
	globs := names(m.Globs, func(g api.Glob) (string, bool) {
		return g.Name, chosen(g.Here, g.Bind)
	})
	return append(funcs, globs...)
}

// names are those that tell gives of the things of which it gives one, in order.
func names[T any](l []T, tell func(T) (string, bool)) []string {
	var out []string
	for _, x := range l {
		if name, is := tell(x); is {
			out = append(out, name)
		}
	}
	return out
}
