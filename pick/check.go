package pick

import (
	"marline/api"
	"marline/ir"
)

// modules is how many there are in all files.
func modules(l []api.File) int {
	n := 0
	for _, f := range l {
		n += len(f.Mods)
	}
	return n
}

// objectsOfOne: has each object just one module?
func objectsOfOne(l []api.File) bool {
	for _, f := range l {
		if !f.Archive && len(f.Mods) != 1 {
			return false
		}
	}
	return true
}

// firstError is why the first module isn't right that isn't.
func firstError(l []api.File) api.Errno {
	for _, f := range l {
		for _, m := range f.Mods {
			if e := ir.Check(m); e != api.OK {
				return e
			}
		}
	}
	return api.OK
}
