package reach_test

import (
	"testing"

	"marline/api"
)

// TestRoots: P11.1, what is strong, functions ahead of globals, in order, and main in its place.
func TestRoots(t *testing.T) {
	for text, want := range map[string]string{
		"": "",
		// none
		"=a =x*":                "",
		"~a ?b ~x* ?y*":         "",
		"=a:b =b:a ~c:a,x* =x*": "",
		// whether it is here or not
		"+a":      "a",
		"-a":      "a",
		"+x*":     "x",
		"-x*":     "x",
		"-a/3 +b": "a b",
		// in order, functions ahead of globals
		"+x* +a":                        "a x",
		"+z* +b +y* +a +x*":             "b a z y x",
		"+b =d +a ~c =w* +y* ~v* +x*":   "b a y x",
		"+c:a,b +a:c +b":                "c a b",
		"-x* +main:x* =y* +y2* ?z* +z2": "main z2 x y2",
		// main, however it binds
		"+main":            "main",
		"-main":            "main",
		"=main":            "main",
		"~main":            "main",
		"?main":            "main",
		"=main/2":          "main",
		"+b =main +a":      "b main a",
		"=b =main =a":      "main",
		"~b ~main ~a +x*":  "main x",
		"+a +b +c ?main/6": "a b c main",
		// a global main is like any other one
		"=main*":     "",
		"~main*":     "",
		"?main*":     "",
		"+main*":     "main",
		"+a ~main*":  "a",
		"-main* =a ": "main",
		// names that aren't quite main's
		"=Main =mai =main2 =.main ~ain": "",
	} {
		expectRoots(t, right(t, text), list(want))
	}
}

// TestRootsTwice: P11.1, a name that two items share is told of each that is strong, or a function main.
func TestRootsTwice(t *testing.T) {
	for text, want := range map[string]string{
		"+a +a":                  "a a",
		"+a =a":                  "a",
		"=a +a":                  "a",
		"~a -a ?a +a":            "a a",
		"+b +a +b":               "b a b",
		"=main +main ?main":      "main main main",
		"+a +a*":                 "a a",
		"+a =a*":                 "a",
		"=a +a*":                 "a",
		"=a ~a*":                 "",
		"+x* =x* -x*":            "x x",
		"=main =main*":           "main",
		"=main +main*":           "main main",
		"+main +main* +main*":    "main main main",
		"+x* +b +a +a* +b* +x* ": "b a x a b x",
	} {
		expectRoots(t, mod(text), list(want))
	}
}

// TestRootsBind: P11.1, a Bind that is none of the three isn't BStrong.
func TestRootsBind(t *testing.T) {
	for _, bind := range []int{0, 1, 3, 4, 5, -1, -2, 1 << 62, -1 << 63, 1<<32 + 2, 1<<8 + 2} {
		m := api.Module{
			Funcs: []api.Func{{Name: "a", Bind: bind}, {Name: "main", Bind: bind}, {Bind: bind}},
			Globs: []api.Glob{{Name: "x", Bind: bind, Here: true, Init: 2}, {Name: "main", Bind: bind}, {Bind: bind}},
		}
		expectRoots(t, m, list("main"))
	}
	m := api.Module{Funcs: []api.Func{{Bind: api.BStrong}}, Globs: []api.Glob{{Bind: api.BStrong}}}
	expectRoots(t, m, []string{"", ""})
}

// TestRootsAll: P11.1, random modules, right or not, held against the chapter's words.
func TestRootsAll(t *testing.T) {
	for start := range 3000 {
		m := randomFrom(start).someModule()
		var want []string
		for at, name := range namesIn(m) {
			bind := 0
			if at < len(m.Funcs) {
				bind = m.Funcs[at].Bind
				if name == "main" {
					bind = 2
				}
			} else {
				bind = m.Globs[at-len(m.Funcs)].Bind
			}
			if bind == 2 {
				want = append(want, name)
			}
		}
		expectRoots(t, m, want)
	}
}
