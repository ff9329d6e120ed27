package resolve

import (
	"slices"

	"marline/api"
)

// shared is a shared name with its items, of which there is one at least.
type shared struct {
	name  string
	items []item
}

// has: is there an item of the name that is so?
func (s shared) has(so func(item) bool) bool {
	return slices.ContainsFunc(s.items, so)
}

// kind is the first item's: all have the same one, if the name isn't mixed.
func (s shared) kind() kind {
	return s.items[0].kind
}

// mixed: are its items of several kinds?
func (s shared) mixed() bool {
	return s.has(func(i item) bool { return i.kind != s.kind() })
}

// twice: are there two definitions of which neither gives way?
func (s shared) twice() bool {
	first := slices.IndexFunc(s.items, item.settles)
	return first >= 0 && slices.ContainsFunc(s.items[first+1:], item.settles)
}

// missing: is a definition asked for, where there is none?
func (s shared) missing() bool {
	return s.has(item.strong) && !s.has(item.defines)
}

// wrong is e, or what is wrong with the name, if the promise names that ahead of e.
func (s shared) wrong(e api.Errno) api.Errno {
	switch e {
	case api.OK, api.ErrEntry:
		if s.missing() {
			e = api.ErrNone
		}
		fallthrough // what is named further ahead counts for more
	case api.ErrNone:
		if s.twice() {
			e = api.ErrTwice
		}
		fallthrough
	case api.ErrTwice:
		if s.mixed() {
			e = api.ErrShape
		}
	}
	return e
}

// def is the definition of a name with which nothing is wrong.
func (s shared) def() api.Def {
	at := slices.IndexFunc(s.items, item.defines)
	d := api.Def{Name: s.name, Func: s.kind().function, Here: at >= 0, Weak: !s.has(item.settles)}
	if !d.Weak {
		at = slices.IndexFunc(s.items, item.settles)
	}
	d.Mod = s.items[max(at, 0)].mod
	return d
}
