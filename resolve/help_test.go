package resolve_test

import (
	"fmt"
	"slices"
	"strconv"
	"strings"
	"testing"

	"marline/api"
	"marline/resolve"
)

// random gives numbers: each row of them is always the same.
type random uint64

// below is a number below n.
func (r *random) below(n int) int {
	*r = *r*6364136223846793005 + 1442695040888963407
	return int(uint64(*r>>33) % uint64(n))
}

// sign is what a word of mod may begin with: how its name binds, and whether it is here.
type sign struct {
	letter byte
	bind   int
	here   bool
}

// signs are all of them; the last four are those of modules that aren't right.
var signs = []sign{
	{'+', api.BStrong, true}, {'-', api.BStrong, false},
	{'~', api.BWeak, true}, {'?', api.BWeak, false},
	{'=', api.BLocal, true},
	{':', api.BLocal, false}, {'^', 0, true}, {'_', 4, false}, {'%', -1, true},
}

// mod is a module by a text of words: a sign, a name of letters, and what the name is: a function without Params, with as many as a number says, or, by a *, a global.
func mod(text string) api.Module {
	var m api.Module
	for _, word := range strings.Fields(text) {
		how := signs[slices.IndexFunc(signs, func(s sign) bool { return s.letter == word[0] })]
		name := strings.TrimRight(word[1:], "*-0123456789")
		if strings.HasSuffix(word, "*") {
			m.Globs = append(m.Globs, api.Glob{Name: name, Bind: how.bind, Here: how.here})
			continue
		}
		f := api.Func{Name: name, Bind: how.bind}
		f.Params, _ = strconv.Atoi(word[1+len(name):])
		if how.here {
			f.Blocks = []api.Block{{Params: f.Params, Ins: []api.Inst{{Op: api.IConst}}, End: api.Term{Kind: api.TRet, A: f.Params}}}
		}
		m.Funcs = append(m.Funcs, f)
	}
	return m
}

// mods are some, that stand in one text with a bar between.
func mods(text string) []api.Module {
	var l []api.Module
	for _, t := range strings.Split(text, "|") {
		l = append(l, mod(t))
	}
	return l
}

// def is how a definition stands in a test: its name, its module, and of F, W and H those that it is: a function, weak, here.
func def(d api.Def) string {
	out := fmt.Sprint(d.Name, " ", d.Mod, " ")
	for _, x := range []struct {
		is     bool
		letter string
	}{{d.Func, "F"}, {d.Weak, "W"}, {d.Here, "H"}} {
		if x.is {
			out += x.letter
		}
	}
	return strings.TrimSuffix(out, " ")
}

// defs are some, with a comma between.
func defs(l []api.Def) string {
	var out []string
	for _, d := range l {
		out = append(out, def(d))
	}
	return strings.Join(out, ", ")
}

// expectNames: Names answers these, in memory of its own, and leaves what it was handed as it was.
func expectNames(t *testing.T, why string, l []api.Module, want ...string) {
	t.Helper()
	before := fmt.Sprintf("%+v", l)
	for range 2 { // the second one shows what the first one kept
		got := resolve.Names(l)
		if !slices.Equal(got, want) {
			t.Errorf("%.500s: Names answers %.500q, not %.500q: %.500s", why, got, want, before)
		}
		got = got[:cap(got)]
		for at := range got {
			got[at] = "scribbled"
		}
	}
	if fmt.Sprintf("%+v", l) != before {
		t.Errorf("%.500s: Names wrote into what it was handed", why)
	}
}

// expectAll: All answers this error, and else these definitions, in memory of its own, and leaves what it was handed as it was.
func expectAll(t *testing.T, why string, l []api.Module, want string, e api.Errno) {
	t.Helper()
	before := fmt.Sprintf("%+v", l)
	for range 2 {
		got, is := resolve.All(l)
		if is != e || defs(got) != want {
			t.Errorf("%.500s: All answers %.500q, %d, not %.500q, %d: %.500s", why, defs(got), is, want, e, before)
		}
		got = got[:cap(got)]
		for at := range got {
			got[at] = api.Def{Name: "scribbled"}
		}
	}
	if fmt.Sprintf("%+v", l) != before {
		t.Errorf("%.500s: All wrote into what it was handed", why)
	}
}

// expectDefs: of modules by their text All answers these definitions, and no error.
func expectDefs(t *testing.T, text, want string) {
	t.Helper()
	expectAll(t, text, mods(text), want, api.OK)
}

// expectError: of modules by their text All answers that error alone.
func expectError(t *testing.T, text string, e api.Errno) {
	t.Helper()
	expectAll(t, text, mods(text), "", e)
}
