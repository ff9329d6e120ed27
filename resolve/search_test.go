package resolve_test

import (
	"fmt"
	"slices"
	"strings"
	"testing"

	"marline/api"
)

// found is an item of a name, as the chapter's words tell it.
type found struct {
	mod      int
	function bool
	params   int
	bind     int
	defines  bool
}

// itemsOf are a name's items.
func itemsOf(l []api.Module, name string) []found {
	var out []found
	for at, m := range l {
		for _, f := range m.Funcs {
			if f.Name == name && f.Bind != api.BLocal {
				out = append(out, found{at, true, f.Params, f.Bind, len(f.Blocks) > 0})
			}
		}
		for _, g := range m.Globs {
			if g.Name == name && g.Bind != api.BLocal {
				out = append(out, found{at, false, 0, g.Bind, g.Here})
			}
		}
	}
	return out
}

// sharedOf are the shared names.
func sharedOf(l []api.Module) []string {
	var out []string
	tell := func(name string) {
		if len(itemsOf(l, name)) > 0 && !slices.Contains(out, name) {
			out = append(out, name)
		}
	}
	for _, m := range l {
		for _, f := range m.Funcs {
			if f.Bind != api.BLocal {
				tell(f.Name)
			}
		}
		for _, g := range m.Globs {
			if g.Bind != api.BLocal {
				tell(g.Name)
			}
		}
	}
	return out
}

// faultsOf are the errors that a name has, of the first three.
func faultsOf(l []found) []api.Errno {
	var out []api.Errno
	strong, settled, defined := 0, 0, 0
	for at, a := range l {
		for _, b := range l[at+1:] {
			if a.function != b.function || a.function && a.params != b.params {
				out = append(out, api.ErrShape)
			}
		}
		if a.bind == api.BStrong {
			strong++
			if a.defines {
				settled++
			}
		}
		if a.defines {
			defined++
		}
	}
	if settled > 1 {
		out = append(out, api.ErrTwice)
	}
	if defined == 0 && strong > 0 {
		out = append(out, api.ErrNone)
	}
	return out
}

// hasEntry: is there a main of functions without Params, of which one defines?
func hasEntry(l []api.Module) bool {
	main := itemsOf(l, "main")
	none := !slices.ContainsFunc(main, func(i found) bool { return !i.function || i.params != 0 })
	return none && slices.ContainsFunc(main, func(i found) bool { return i.defines })
}

// defOf is the definition of a name.
func defOf(name string, l []found) api.Def {
	for _, i := range l {
		if i.defines && i.bind == api.BStrong {
			return api.Def{Name: name, Mod: i.mod, Func: i.function, Here: true}
		}
	}
	for _, i := range l {
		if i.defines {
			return api.Def{Name: name, Mod: i.mod, Func: i.function, Here: true, Weak: true}
		}
	}
	return api.Def{Name: name, Mod: l[0].mod, Func: l[0].function, Weak: true}
}

// searched is what All answers, searched by the chapter's words.
func searched(l []api.Module) (string, api.Errno) {
	var out []api.Def
	e := api.OK
	if !hasEntry(l) {
		e = api.ErrEntry
	}
	for _, name := range sharedOf(l) {
		i := itemsOf(l, name)
		e = firstNamed(append(faultsOf(i), e)...)
		out = append(out, defOf(name, i))
	}
	if e != api.OK {
		return "", e
	}
	return defs(out), e
}

// expectSearched: Names and All answer what a search finds; it answers All's error.
func expectSearched(t *testing.T, why string, l []api.Module) api.Errno {
	t.Helper()
	expectNames(t, why, l, sharedOf(l)...)
	want, e := searched(l)
	expectAll(t, why, l, want, e)
	return e
}

// wordsOf are all words of one name with up to one of Params, and none.
func wordsOf(name string) []string {
	l := []string{""}
	for _, s := range signs[:5] {
		for _, what := range []string{"", "1", "*"} {
			l = append(l, string(s.letter)+name+what)
		}
	}
	return l
}

// TestEachOfThree: P9.1 and P9.2, one name with all that it may be in each of three modules: f beside a main, and main itself.
func TestEachOfThree(t *testing.T) {
	met := map[api.Errno]int{}
	for _, name := range []string{"f", "main"} {
		words := wordsOf(name)
		for _, a := range words {
			for _, b := range words {
				for _, c := range words {
					text := strings.Join([]string{a, b, c}, "|")
					if name == "f" {
						text += "|+main"
					}
					met[expectSearched(t, text, mods(text))]++
				}
			}
		}
	}
	for e, least := range map[api.Errno]int{api.OK: 500, api.ErrShape: 500, api.ErrTwice: 30, api.ErrNone: 100, api.ErrEntry: 100} {
		if met[e] < least {
			t.Errorf("error %d is met %d times alone", e, met[e])
		}
	}
}

// someModules are up to 7 modules of a few names; one in three rows isn't right.
func (r *random) someModules() []api.Module {
	var texts []string
	signs := signs
	if r.below(3) > 0 {
		signs = signs[:5]
	}
	kinds := map[string]string{"main": "", "a": "", "b": "2", "C": "*", "D": "*", "e": ""}
	names := []string{"main", "a", "b", "C", "D", "e"}
	for range r.below(7) + 1 {
		text := ""
		for range r.below(5) {
			s, name := signs[r.below(len(signs))], names[r.below(len(names))]
			if s.bind == api.BStrong && s.here && r.below(3) > 0 {
				s.letter = "~?="[r.below(3)] // or nearly all are defined twice
			}
			kind := kinds[name]
			if r.below(60) == 0 {
				kind = []string{"1", "*", ""}[r.below(3)]
			}
			text += string(s.letter) + name + kind + " "
		}
		texts = append(texts, text)
	}
	texts[r.below(len(texts))] += []string{"+main", "+main", "~main", "?main", ""}[r.below(5)]
	return mods(strings.Join(texts, "|"))
}

// TestSearched: P9.1 and P9.2, random modules.
func TestSearched(t *testing.T) {
	met := map[api.Errno]int{}
	for start := range 8000 {
		r := random(start)
		met[expectSearched(t, fmt.Sprint("row ", start), r.someModules())]++
	}
	for _, e := range []api.Errno{api.OK, api.ErrShape, api.ErrTwice, api.ErrNone, api.ErrEntry} {
		if met[e] < 200 {
			t.Errorf("error %d is met %d times alone", e, met[e])
		}
	}
}
