package merge_test

import (
	"fmt"
	"slices"
	"strings"
	"testing"

	"marline/api"
)

// TestErrorsOfNames: P10.3, each error of chapter 9.
func TestErrorsOfNames(t *testing.T) {
	for text, e := range map[string]api.Errno{
		"+main +f | +f*":       api.ErrShape,
		"+main ~f/1 | ?f/2":    api.ErrShape,
		"+main | ?main/1":      api.ErrShape,
		"+main ?x* | ?x":       api.ErrShape,
		"+main +f | +f":        api.ErrTwice,
		"+main +x* | +x*":      api.ErrTwice,
		"+main | | +main":      api.ErrTwice,
		"+main -f":             api.ErrNone,
		"+main -x*":            api.ErrNone,
		"+main ?f | -f | =f":   api.ErrNone,
		"-main":                api.ErrNone,
		"+f":                   api.ErrEntry,
		"":                     api.ErrEntry,
		"=main":                api.ErrEntry,
		"?main":                api.ErrEntry,
		"+main*":               api.ErrEntry,
		"+main/1":              api.ErrEntry,
		"+f =main | =main +f*": api.ErrShape, // and no main
		"+f | +f":              api.ErrTwice,
		"-f":                   api.ErrNone,
		"+main ~f/1 | -f/2":    api.ErrShape, // and another one
		"+main +f +g | +f -g*": api.ErrShape,
		"+main +f -g | +f":     api.ErrTwice,
	} {
		expectError(t, text, "", e)
		expectError(t, text, "main", e)
		expectError(t, text, "nobody", e) // what is kept is named behind
	}
	for _, l := range [][]api.Module{nil, {}, {{}}} {
		expectAll(t, "nothing", l, nil, api.Module{}, api.ErrEntry)
		expectAll(t, "nothing", l, []string{"f"}, api.Module{}, api.ErrEntry)
	}
}

// TestErrNone: P10.3, a name of keep that is no definition's, or one's that isn't there.
func TestErrNone(t *testing.T) {
	for _, x := range []struct{ text, keep string }{
		{"+main", "f"},
		{"+main", "Main"},
		{"+main", "mai"},
		{"+main", "main main main f"},
		{"+main", "f main"},
		{"+main +f", "f g"},
		{"+main +f", "g f"},
		{"+main +x*", "x* y"},
		{"+main ?f", "f"},
		{"+main ?x*", "x"},
		{"+main ?f | ?f | ?f", "f"},
		{"+main ?f +g | ~g | ?f", "g f g"},
		{"+main =f", "f"}, // what is local is nobody's
		{"+main =x*", "x"},
		{"+main =f | =f | =f*", "f"},
		{"+main =f ", ".0"},
		{"+main =f#1 | ?f", "f"},
		{"+main ?f | =f", "f"},
		{"+main | =main", ".0"},
	} {
		expectError(t, x.text, x.keep, api.ErrNone)
	}
	expectAll(t, "a name of no bytes", mods("+main"), []string{""}, api.Module{}, api.ErrNone)
	expectAll(t, "bytes behind", mods("+main"), []string{"main\x00"}, api.Module{}, api.ErrNone)
	expectAll(t, "an empty list", mods("+main"), []string{}, mod("+main"), api.OK)
}

// row is a text of so many words with numbers, from one on.
func row(word string, from, n int) string {
	var out []string
	for k := range n {
		out = append(out, fmt.Sprintf(word, from+k))
	}
	return strings.Join(out, " ")
}

// TestErrBig: P10.3, MaxFuncs functions and MaxGlobs globals may be, and not one more.
func TestErrBig(t *testing.T) {
	for text, want := range map[string]string{
		"+main " + row("+f%d", 0, 15):                                     "+main " + row("=f%d", 0, 15),
		"+main " + row("=f%d", 0, 15):                                     "+main " + row("=.%d", 0, 15),
		"+main | " + row("?f%d", 0, 15):                                   "+main " + row("=f%d", 0, 15),
		"+main " + row("+f%d", 0, 5) + "|" + row("~f%d", 5, 10):           "+main " + row("=f%d", 0, 15),
		"+main | " + row("+x%d*", 0, 16):                                  "+main " + row("=x%d*", 0, 16),
		"+main " + row("=x%d*", 0, 8) + "|" + row("=x%d*", 0, 8):          "+main " + row("=.%d*", 0, 16),
		"+main " + row("?x%d*", 0, 16):                                    "+main " + row("=x%d*", 0, 16),
		"+main " + row("+f%d", 0, 15) + "|" + row("+x%d*", 0, 16):         "+main " + row("=f%d", 0, 15) + row(" =x%d*", 0, 16),
		"+main " + row("~f%d", 0, 15) + "|" + row("~f%d", 0, 15):          "+main " + row("=f%d", 0, 15),
		"+main " + row("-f%d", 0, 15) + "|" + row("+f%d", 0, 15):          "+main " + row("=f%d", 0, 15),
		"+main " + row("~x%d*", 0, 16) + "|" + row("-x%d*", 0, 16) + "||": "+main " + row("=x%d*", 0, 16),
	} {
		expectMerged(t, text, "", want)
	}
	for _, text := range []string{
		"+main | " + row("+f%d", 0, 16),
		"+main | " + row("=f%d", 0, 16),
		"+main | " + row("~f%d", 0, 16),
		"+main | " + row("?f%d", 0, 16),
		"+main " + row("=f%d", 0, 15) + "| ?f",
		"+main " + row("=f%d", 0, 15) + "| =f1",
		"+main " + row("?f%d", 0, 15) + "| =f1",
		"+main +x* " + row("=x%d*", 0, 15) + "| =x*",
		"+main | " + row("+x%d*", 0, 16) + "| +y*",
		"+main | " + row("+x%d*", 0, 16) + "| =y*",
		"+main | " + row("?x%d*", 0, 16) + "| ?y*",
		"+main | " + row("+x%d*", 0, 16) + "| =x0*",
		"+main " + row("+x%d*", 0, 8) + "|" + row("=x%d*", 0, 9),
		"+main +f " + row("+x%d*", 0, 16) + "|" + row("+x%d*", 16, 16) + "| " + row("=f%d", 0, 16),
	} {
		expectError(t, text, "", api.ErrBig)
		expectError(t, text, "main", api.ErrBig)
		expectError(t, text, "main nobody", api.ErrNone) // that is named ahead
		expectError(t, text+"| +main", "nobody", api.ErrTwice)
		expectError(t, text+"| -nobody", "", api.ErrNone)
		expectError(t, text+"| ?main/1", "nobody", api.ErrShape)
		expectError(t, strings.Replace(text, "+main", "+a", 1), "nobody", api.ErrEntry)
	}
}

// TestManyModules: P10.3 and R1, many modules, of which all but a few give way.
func TestManyModules(t *testing.T) {
	text := "+main" + strings.Repeat("| ~f#1 ~x*#2 ?g -main", 20000)
	l := right(t, text)
	expectAll(t, "many modules", l, []string{"x"}, mod("+main =f#1 =g +x*#2"), api.OK)
	l = append(l, mod("+g#3 =h"))
	expectAll(t, "one more", l, []string{"g"}, mod("+main =f#1 +g#3 =.0 =x*#2"), api.OK)
	l = slices.Concat(l, slices.Repeat([]api.Module{mod("=h#4 =y*")}, 20000))
	expectAll(t, "too much that is local", l, nil, api.Module{}, api.ErrBig)
}
