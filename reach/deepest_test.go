package reach_test

import (
	"fmt"
	"slices"
	"strings"
	"testing"

	"marline/api"
)

// TestDeepest: P11.2, functions behind those that they call.
func TestDeepest(t *testing.T) {
	for text, want := range map[string]string{
		"":                    "",
		"=x* +y*":             "",
		"+main:f =f =g":       "f main g", // the document's example
		"+main":               "main",
		"+main:x* =x*":        "main",
		"+b:x=,x* ~a =c =x*":  "b a c", // nothing calls them
		"-b ?a -c":            "b a c",
		"=c:x* -b +main ~x*":  "c b main",
		"=b:a/2 -a/2 ?c =d:c": "a b c d",
		// a chain
		"+main:a =a:b =b:c =c": "c b a main",
		"=c =b:c =a:b +main:a": "c b a main",
		"=b:c =a:b +main:a =c": "c b a main",
		"=b:c =c +main:a =a:b": "c b a main",
		"+d =c:d +b:d =a:d":    "d c b a",
		"=a:d +b:d =c:d -d":    "d a b c",
		"=a =b:a =c:a,b =d:b":  "a b c d",
		"=d:b =c:a,b =b:a =a":  "a b d c",
		// the order of the calls, not that of the module
		"+main:b,a =a =b":                "b a main",
		"+main:a,b =a =b":                "a b main",
		"+main:c,a,c,b =a =b =c":         "c a b main",
		"+main:c;a,c;;b =a =b =c":        "c a b main",
		"+main:c,a,b =a:b =b =c =d:main": "c b a main d",
		// two ways to one function
		"+main:a,b =a:c =b:c =c":                 "c a b main",
		"+main:b,a =a:c =b:c =c":                 "c b a main",
		"+main:a,b =a =b:a":                      "a b main",
		"+main:b,a =a =b:a":                      "a b main",
		"+main:a,b,c =a:d =b:e,d =c:b,e =d:e =e": "e d a b c main",
		// rings
		"+main:main":                       "main",
		"=a:a,b,a =b:b":                    "b a",
		"=a:b =b:a":                        "b a",
		"=b:a =a:b":                        "a b",
		"=a:b =b:c =c:a":                   "c b a",
		"=b:c =c:a =a:b":                   "a c b",
		"=a:b,c =b:a,c =c:a,b":             "c b a",
		"=a:c,b =b:a,c =c:a,b":             "b c a",
		"+main:b =a:b,c =b:a =c:d,a =d":    "d c a b main",
		"=d:c =c:b =b:a,d =a:b,e =e":       "e a b c d",
		"=a:b,a,c =b:b =c:b,d,c =d:a,e =e": "b e d c a",
		"=e:a +main:a =a:b =b:c =c:a,d =d": "d c b a e main",
	} {
		expectDeepest(t, right(t, text), list(want))
	}
}

// TestDeepestWrong: P11.2, of modules that aren't right, too: what is called and isn't a function there is passed over.
func TestDeepestWrong(t *testing.T) {
	for text, want := range map[string]string{
		// a name that isn't there
		"+main:z":              "main",
		"+main:z,a,y =a:z":     "a main",
		"+main:a =a:z,b =b":    "b a main",
		"=b:z =a:main +main:b": "b main a",
		// a global's
		"+main:x =x*":            "main",
		"+main:x,a =a:y =x* =y*": "a main",
		// functions that aren't called, but loaded
		"+main:a*,b= =a =b": "main a b",
		// a name that two functions have
		"=f:a =f:b =a =b":         "a f b",
		"=f =f:b =b":              "f b",
		"?f =f:b =b":              "f b",
		"=f:b =f:a =a =b":         "b f a",
		"=a:f =f:b =b =f:c =c":    "b f a c",
		"=a =a =a":                "a",
		"=a:b =b:a =a =b":         "b a",
		"=c:a =b =a:b =a:d =d =c": "b a c d",
		// one that a function and a global have
		"+main:x =x* =x:a =a": "a x main",
		"=a:a* =a* =b:a":      "a b",
	} {
		expectDeepest(t, mod(text), list(want))
	}
	m := api.Module{Funcs: []api.Func{line("a", 9, api.Inst{Op: api.ICall}, api.Inst{Op: 99, Name: "b"}), {Name: "b"}, line("", 0, api.Inst{Op: api.ICall, Name: "b"})}}
	expectDeepest(t, m, []string{"b", "", "a"})
}

// way is a function on the way, and what it calls that isn't looked at yet.
type way struct {
	name string
	rest []string
}

// deepestOf are functions, those that are called first, by the chapter's words.
func deepestOf(m api.Module) []string {
	var out []string
	for _, f := range m.Funcs {
		var on []way
		step := func(name string) {
			there := slices.ContainsFunc(m.Funcs, func(f api.Func) bool { return f.Name == name })
			isOn := slices.ContainsFunc(on, func(w way) bool { return w.name == name })
			if there && !isOn && !slices.Contains(out, name) {
				on = append(on, way{name, callsOf(m, name)})
			}
		}
		for step(f.Name); len(on) > 0; {
			last := &on[len(on)-1]
			if len(last.rest) > 0 {
				next := last.rest[0]
				last.rest = last.rest[1:]
				step(next)
				continue
			}
			out = append(out, last.name)
			on = on[:len(on)-1]
		}
	}
	return out
}

// TestDeepestEach: P11.2, three functions, each of which calls up to two of them and one that isn't there, in each way.
func TestDeepestEach(t *testing.T) {
	names := []string{"a", "b", "c", "z"}
	rows := []string{""}
	for _, one := range names {
		rows = append(rows, one)
		for _, two := range names {
			rows = append(rows, one+","+two)
		}
	}
	for _, a := range rows {
		for _, b := range rows {
			for _, c := range rows {
				m := mod("=a:" + a + " =b:" + b + " =c:" + c)
				want := deepestOf(m)
				if len(want) != 3 {
					t.Fatalf("the test's own answer is %q", want)
				}
				expectDeepest(t, m, want)
			}
		}
	}
}

// TestDeepestAll: P11.2, random modules, right or not, held against the chapter's words.
func TestDeepestAll(t *testing.T) {
	other := 0
	for start := range 4000 {
		m := randomFrom(start + 1<<42).someModule()
		want := deepestOf(m)
		if plain := fmt.Sprint(namesIn(m)); !strings.HasPrefix(plain, strings.TrimRight(fmt.Sprint(want), "]")) {
			other++
		}
		expectDeepest(t, m, want)
	}
	if other < 1000 {
		t.Errorf("only %d modules have functions in another order", other)
	}
}

// TestDeepestLong: P11.2 and R1, a chain of many functions, and one that is a ring.
func TestDeepestLong(t *testing.T) {
	m, want := chain(50000)
	slices.Reverse(want)
	expectDeepest(t, m, want)
	m.Funcs[49999].Blocks[0].Ins[0].Name = "0"
	expectDeepest(t, m, want)
	slices.Reverse(m.Funcs)
	expectDeepest(t, m, append(want[1:], want[0])) // it begins with the last one now
}
