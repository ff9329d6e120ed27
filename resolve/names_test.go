package resolve_test

import (
	"fmt"
	"strings"
	"testing"

	"marline/api"
	"marline/resolve"
)

// TestNames: P9.1, the shared names of modules, each once, by their first items.
func TestNames(t *testing.T) {
	for text, want := range map[string]string{
		"":                             "",
		"|||":                          "",
		"+f":                           "f",
		"~f":                           "f",
		"=f":                           "",
		"-f":                           "f",
		"?f":                           "f",
		"+x*":                          "x",
		"~x*":                          "x",
		"=x*":                          "",
		"-x*":                          "x",
		"?x*":                          "x",
		"+f ~g =h -i ?j":               "f g i j",
		"+z* ~y* =x* -w* ?v*":          "z y w v",
		"+b +a +d +c":                  "b a d c",
		"+x* +f ~y* ~g":                "f g x y",
		"+x* | +f":                     "x f",
		"+f +x* | +g +y* | +h +z*":     "f x g y h z",
		"+z* +f | +y* +g":              "f z g y",
		"+f | +f | +f":                 "f",
		"-f | ?f | ~f | +f":            "f",
		"+a | +b +a | +c +b +a":        "a b c",
		"-b | +a | -a +b":              "b a",
		"+f | -f*":                     "f",
		"+x* -f | +f ~x | -y* +x":      "f x y",
		"=f | +f":                      "f",
		"=a +b | -a -b":                "b a",
		"=f | =f | =f*":                "",
		"=a =x* -g | =b =y* +g | =g":   "g",
		"=a* +b | +a":                  "b a",
		"| -c | | -b -c | -a* | ~a* |": "c b a",
		"+f1 | +f2 | -f3 | ~f*":        "f",
		"+F +f | +f +F | +ff":          "F f ff",
	} {
		expectNames(t, text, mods(text), strings.Fields(want)...)
	}
	expectNames(t, "no list", nil)
	expectNames(t, "an empty list", []api.Module{})
	expectNames(t, "modules of empty lists", []api.Module{{Funcs: []api.Func{}, Globs: []api.Glob{}}})
}

// TestNamesBytes: P9.1, names are rows of any bytes: none is another one's for being like it.
func TestNamesBytes(t *testing.T) {
	l := []string{"a", "A", "a\x00", "\x00", "\x00\x00", " a", "a ", "ä", "a\u0308", "\xff", "\xfe", "\xc3", "sixteen bytes 16", "sixteen bytes 17", "main", "Main"}
	var m, again api.Module
	for at, name := range l {
		m.Funcs = append(m.Funcs, api.Func{Name: name, Bind: api.BStrong, Params: at % 7})
		again.Globs = append(again.Globs, api.Glob{Name: l[len(l)-1-at], Bind: api.BWeak})
	}
	expectNames(t, "names of all sorts", []api.Module{m, again}, l...)
}

// TestNamesWrong: P9.1 and R1, of modules that aren't right the same is done.
func TestNamesWrong(t *testing.T) {
	for text, want := range map[string]string{
		"^f _g %h :i":            "f g h",
		"^f* _g* %h* :i*":        "f g h",
		":f | =f | _f":           "f",
		"+f +f -f ~f*":           "f",
		"+f* +g* +f* | +g +h +g": "f g h",
		"+f-1 | +f99 -g-5":       "f g",
	} {
		expectNames(t, text, mods(text), strings.Fields(want)...)
	}
	long := strings.Repeat("long", 10000)
	l := []api.Module{{Globs: []api.Glob{{Name: long}, {Bind: 99, Init: 5}}, Funcs: []api.Func{{Bind: 77, Name: long[1:]}}}}
	expectNames(t, "a long name, and one of no bytes", l, long[1:], long, "")
	big := []api.Module{{}, {}}
	var want []string
	for at := range 30000 {
		name := fmt.Sprint("f", at)
		want = append(want, name)
		big[0].Funcs = append(big[0].Funcs, api.Func{Name: name, Bind: api.BStrong})
		big[1].Globs = append(big[1].Globs, api.Glob{Name: name, Bind: api.BWeak})
	}
	expectNames(t, "many names", big, want...)
}

// TestFind: P9.1, the first one of a name, or none.
func TestFind(t *testing.T) {
	l := []api.Def{
		{Name: "f", Mod: 3, Func: true, Here: true},
		{Name: "g", Mod: 1, Weak: true},
		{Name: "f", Mod: 5, Weak: true},
		{Name: "", Mod: 9},
		{Name: "h", Mod: -7, Func: true, Weak: true, Here: true},
		{Name: "g", Mod: 1, Weak: true, Here: true},
		{Name: "last"},
	}
	for _, x := range []struct {
		name string
		at   int
	}{
		{"f", 0}, {"g", 1}, {"", 3}, {"h", 4}, {"last", 6},
		{"F", -1}, {"ff", -1}, {"f\x00", -1}, {" ", -1}, {"las", -1}, {"main", -1},
	} {
		for n := range len(l) + 1 { // of the first n alone
			want, there := api.Def{}, x.at >= 0 && x.at < n
			if there {
				want = l[x.at]
			}
			if d, is := resolve.Find(l[:n:n], x.name); is != there || d != want {
				t.Errorf("of the first %d Find of %q answers %+v, %t, not %+v, %t", n, x.name, d, is, want, there)
			}
		}
	}
	if d, is := resolve.Find(nil, ""); is || d != (api.Def{}) {
		t.Errorf("in no list Find answers %+v, %t", d, is)
	}
	if d, is := resolve.Find(l[1:], "f"); !is || d != l[2] {
		t.Errorf("behind the first one Find answers %+v, %t", d, is)
	}
}

// TestFindAll: P9.1, each name that Names tells is found in what All answers, and no local one.
func TestFindAll(t *testing.T) {
	l := mods("+main -f =a* ?w3 | ~f ~x* =b | +f =c ?y*")
	all, e := resolve.All(l)
	if e != api.OK {
		t.Fatalf("All answers %d", e)
	}
	for at, name := range resolve.Names(l) {
		if d, is := resolve.Find(all, name); !is || d != all[at] {
			t.Errorf("Find of %q answers %+v, %t", name, d, is)
		}
	}
	for _, name := range []string{"a", "b", "c", "", "g"} {
		if d, is := resolve.Find(all, name); is || d != (api.Def{}) {
			t.Errorf("Find of %q answers %+v, %t", name, d, is)
		}
	}
}
