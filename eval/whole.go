package eval

import (
	"marline/api"
	"marline/ir"
)

// mainName is that of the function that a run calls.
const mainName = "main"

// hasMain: has a module a main that a run can call?
func hasMain(m api.Module) bool {
	for _, f := range m.Funcs {
		if f.Name == mainName {
			return len(f.Blocks) > 0 && f.Params == 0
		}
	}
	return false
}

// allHere: is all here that the instructions of a right module name?
func allHere(m api.Module) bool {
	here := map[string]struct{}{}
	for _, f := range m.Funcs {
		if len(f.Blocks) > 0 {
			here[f.Name] = struct{}{}
		}
	}
	for _, g := range m.Globs {
		if g.Here {
			here[g.Name] = struct{}{}
		}
	}
	// In a right module a name is of one thing, and that is of the kind which the instruction asks for.
	for _, f := range m.Funcs {
		for _, name := range ir.Refs(f) {
			if _, is := here[name]; !is {
				return false
			}
		}
	}
	return true
}
