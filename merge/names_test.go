package merge_test

import (
	"fmt"
	"slices"
	"strconv"
	"strings"
	"testing"

	"marline/api"
	"marline/resolve"
)

// givenBy are the maps of a text: old and new names by turns, with a bar between modules.
func givenBy(text string) []map[string]string {
	var out []map[string]string
	for _, t := range strings.Split(text, "|") {
		names := map[string]string{}
		for l := strings.Fields(t); len(l) > 0; l = l[2:] {
			names[l[0]] = l[1]
		}
		out = append(out, names)
	}
	return out
}

// TestNames: P10.2, of modules by their text.
func TestNames(t *testing.T) {
	for text, want := range map[string]string{
		"":            "",
		"||":          "||",
		"=f":          "f .0",
		"=x*":         "x .0",
		"+f -g ~h ?i": "",
		"+x* -y* ?z*": "",
		// in one module: functions ahead of globals, local ones alone
		"=b =a":         "b .0 a .1",
		"=y* =x*":       "y .0 x .1",
		"+f =g -h =i":   "g .0 i .1",
		"+x* =y* ?z*":   "y .0",
		"=x* =f":        "f .0 x .1",
		"=x* =f =y* =g": "f .0 g .1 x .2 y .3",
		"=x* +f ~y* =g": "g .0 x .1",
		// from module to module
		"=f | =f":                           "f .0 | f .1",
		"=f | =f | =f*":                     "f .0 | f .1 | f .2",
		"=x* | =f":                          "x .0 | f .1",
		"=x* =f | =g =y* =h":                "f .0 x .1 | g .2 h .3 y .4",
		"=a | | +b | =c | ":                 "a .0 | | | c .1 |",
		"=f +g | +f =g":                     "f .0 | g .1",
		"=f -g | +g =f":                     "f .0 | f .1",
		"=a =b =c | =a =b =c | =c =b =a":    "a .0 b .1 c .2 | a .3 b .4 c .5 | c .6 b .7 a .8",
		"=.0 | =.0":                         ".0 .0 | .0 .1",
		"=.1 =.0":                           ".1 .0 .0 .1",
		"=.2 =.7 | =.2*":                    ".2 .0 .7 .1 | .2 .2",
		"=a* =b =c =d =e =f =g =h =i =j =k": "b .0 c .1 d .2 e .3 f .4 g .5 h .6 i .7 j .8 k .9 a .10",
		// shared names that look like new ones
		"=f +.0":                     "f .1",
		"=f ?.0":                     "f .1",
		"=f -.0*":                    "f .1",
		"=f | | ~.0*":                "f .1 | |",
		"=f =g =h | ~.1 +.2 =f":      "f .0 g .3 h .4 | f .5",
		"=f =g | +.1":                "f .0 g .2 |",
		"=f | =g +.1 | =h ?.2 ~.4* ": "f .0 | g .3 | h .5",
		"=f +.01 +.00 +0 +1 -..0":    "f .0",
		"=.0 =g | +.0":               ".0 .1 g .2 |",
		"=.0 | +.0 +.1 +.2 | =.3":    ".0 .3 | | .3 .4",
	} {
		expectNames(t, text, right(t, text), givenBy(want))
	}
	expectNames(t, "no list", nil, nil)
	expectNames(t, "an empty list", []api.Module{}, nil)
}

// TestNamesWrong: P10.2 and R1, in modules that aren't right a name is given once, too, and what isn't BLocal isn't local.
func TestNamesWrong(t *testing.T) {
	l := []api.Module{
		{Funcs: []api.Func{{Name: "", Bind: 1}, {Name: "f", Bind: 0}, {Name: "g", Bind: 1, Params: -1}, {Name: "f", Bind: 1}, {Name: "g", Bind: 1}}},
		{Globs: []api.Glob{{Name: "f", Bind: 1}, {Name: ".3", Bind: 4}, {Name: "f", Bind: 1, Here: true}}, Funcs: []api.Func{{Name: "f", Bind: 1}, {Name: "h", Bind: 1}}},
		{Globs: []api.Glob{{Name: "k", Bind: 1}}},
	}
	expectNames(t, "a name twice", mods("=a =a* | =b =b =c"), givenBy("a .0 | b .1 c .2"))
	expectNames(t, "wrong ones", l, []map[string]string{{"": ".0", "g": ".1", "f": ".2"}, {"f": ".4", "h": ".5"}, {"k": ".6"}})
}

// TestNamesMany: P10.2 and R1, of many modules.
func TestNamesMany(t *testing.T) {
	var l []api.Module
	var want []map[string]string
	for at := range 20000 {
		l = append(l, mod("=f =x* +."+strconv.Itoa(3*at)))
		want = append(want, map[string]string{})
	}
	next := 0
	for at := range want {
		for _, name := range []string{"f", "x"} {
			if next%3 == 0 && next/3 < len(l) {
				next++
			}
			want[at][name] = "." + strconv.Itoa(next)
			next++
		}
	}
	expectNames(t, "many", l, want)
}

// freshOf is the local name of the least number from n on that isn't taken, and the number behind.
func freshOf(n int, taken []string) (string, int) {
	for slices.Contains(taken, "."+strconv.Itoa(n)) {
		n++
	}
	return "." + strconv.Itoa(n), n + 1
}

// namesOf are the new names, by the chapter's words.
func namesOf(l []api.Module) []map[string]string {
	var out []map[string]string
	n := 0
	for _, m := range l {
		names := map[string]string{}
		var local []string
		for _, f := range m.Funcs {
			if f.Bind == api.BLocal {
				local = append(local, f.Name)
			}
		}
		for _, g := range m.Globs {
			if g.Bind == api.BLocal {
				local = append(local, g.Name)
			}
		}
		for at, name := range local {
			if slices.Index(local, name) == at {
				names[name], n = freshOf(n, resolve.Names(l))
			}
		}
		out = append(out, names)
	}
	return out
}

// TestNamesRandom: P10.2, random modules, held against the chapter's words.
func TestNamesRandom(t *testing.T) {
	given, looks := 0, 0
	for start := range 5000 {
		r := randomFrom(start)
		l := r.someModules()
		want := namesOf(l)
		expectNames(t, fmt.Sprint("row ", start), l, want)
		for _, names := range want {
			given += len(names)
		}
		if slices.ContainsFunc(resolve.Names(l), func(name string) bool { return name[0] == '.' }) {
			looks++
		}
	}
	if given < 5000 || looks < 1000 {
		t.Errorf("%d names are given, in %d rows some are taken", given, looks)
	}
}
