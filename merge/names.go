package merge

import (
	"strconv"

	"marline/api"
	"marline/resolve"
)

// newName is a name that stands in the place of another one.
type newName struct {
	text string
}

// newNames are those of one module, by the old ones.
type newNames map[string]newName

// of is what a name is now: the new one, if it has one.
func (n newNames) of(old string) string {
	if fresh, is := n[old]; is {
		return fresh.text
	}
	return old
}

// teller tells local names, each of them once: from a number on, but for those that are taken.
type teller struct {
	taken map[string]struct{}
	next  uint64 // an int has no number behind its greatest one, though there are local names behind that one's
}

// tellerFrom is one that tells from the number n on.
func tellerFrom(n int, taken []string) *teller {
	t := &teller{taken: map[string]struct{}{}, next: uint64(max(n, 0))}
	for _, name := range taken {
		t.taken[name] = struct{}{}
	}
	return t
}

// tell is the next name.
func (t *teller) tell() string {
	for {
		name := "." + strconv.FormatUint(t.next, 10)
		t.next++
		if _, is := t.taken[name]; !is {
			return name
		}
	}
}

// giveAll are the new names of what is local in each module.
func giveAll(l []api.Module) []newNames {
	tell := tellerFrom(0, resolve.Names(l)).tell
	var out []newNames
	for _, m := range l {
		out = append(out, give(m, tell))
	}
	return out
}

// give are the new names of what is local in one module, as they are told.
func give(m api.Module, tell func() string) newNames {
	out := newNames{}
	one := func(name string, bind int) {
		if _, is := out[name]; bind == api.BLocal && !is {
			out[name] = newName{tell()}
		}
	}
	for _, f := range m.Funcs {
		one(f.Name, f.Bind)
	}
	for _, g := range m.Globs {
		one(g.Name, g.Bind)
	}
	return out
}
