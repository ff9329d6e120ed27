package merge

import (
	"marline/api"
	"marline/own"
)

// renamed is a function, in memory of its own, with the names that name tells for its own ones.
func renamed(f api.Func, name func(string) string) api.Func {
	f = own.Func(f)
	f.Name = name(f.Name)
	for _, b := range f.Blocks {
		for at := range b.Ins {
			i := &b.Ins[at]
			i.Name = name(i.Name)
		}
	}
	return f
}
