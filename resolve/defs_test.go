package resolve_test

import (
	"strings"
	"testing"

	"marline/api"
)

// TestAll: P9.2, of each name what it is, and where.
func TestAll(t *testing.T) {
	for text, want := range map[string]string{
		// main
		"+main":                    "main 0 FH",
		"~main":                    "main 0 FWH",
		"| | +main":                "main 2 FH",
		"-main | +main":            "main 1 FH",
		"?main | ~main | ~main":    "main 1 FWH",
		"=main | +main | =main1":   "main 1 FH",
		"-main | ~main | ?main":    "main 1 FWH",
		"=main* | ~main | +main |": "main 2 FH",
		// one name beside it, in one module
		"+main +f":       "main 0 FH, f 0 FH",
		"+main ~f":       "main 0 FH, f 0 FWH",
		"+main ?f":       "main 0 FH, f 0 FW",
		"+main =f":       "main 0 FH",
		"+main +x*":      "main 0 FH, x 0 H",
		"+main ~x*":      "main 0 FH, x 0 WH",
		"+main ?x*":      "main 0 FH, x 0 W",
		"+main =x*":      "main 0 FH",
		"+main | | ?f2":  "main 0 FH, f 2 FW",
		"+main | | ?x*":  "main 0 FH, x 2 W",
		"+main | +f6":    "main 0 FH, f 1 FH",
		"+main | ~x* |":  "main 0 FH, x 1 WH",
		"?f | | +main":   "f 0 FW, main 2 FH",
		"?x* +main ?f |": "main 0 FH, f 0 FW, x 0 W",
		// a strong definition, wherever it stands
		"+main -f | +f":              "main 0 FH, f 1 FH",
		"+main | +f | -f":            "main 0 FH, f 1 FH",
		"+main ~f | +f":              "main 0 FH, f 1 FH",
		"+main +f | ~f":              "main 0 FH, f 0 FH",
		"+main ?f | ~f | -f | +f":    "main 0 FH, f 3 FH",
		"+main | ~f | ~f | +f | ~f":  "main 0 FH, f 3 FH",
		"+main ~x* | ~x* | +x*":      "main 0 FH, x 2 H",
		"+main -x* | +x* | -x* ":     "main 0 FH, x 1 H",
		"+main | ?f4 | +f4 | -f4":    "main 0 FH, f 2 FH",
		"+main | =f | +f | =f | =f*": "main 0 FH, f 2 FH",
		// weak ones: the first one
		"+main | ~f | ~f":              "main 0 FH, f 1 FWH",
		"+main ?f | ~f | ~f | ?f":      "main 0 FH, f 1 FWH",
		"+main | ?x* | ~x* | ~x*":      "main 0 FH, x 2 WH",
		"+main | ~x* | ?x* | ~x*":      "main 0 FH, x 1 WH",
		"+main -f | ~f":                "main 0 FH, f 1 FWH",
		"+main | ~f | -f":              "main 0 FH, f 1 FWH",
		"+main -f | -f | ~f | ~f | -f": "main 0 FH, f 2 FWH",
		"+main -x* | ?x* | ~x*":        "main 0 FH, x 2 WH",
		// weak ones that nothing defines: the first item's module
		"+main | ?f | ?f":           "main 0 FH, f 1 FW",
		"+main | | ?x* | ?x*":       "main 0 FH, x 2 W",
		"+main | =f | ?f | =f":      "main 0 FH, f 2 FW",
		"+main | =x* | ?x* | =x":    "main 0 FH, x 2 W",
		"+main =f6 | =f* | +f3 =g ": "main 0 FH, f 2 FH",
		// several names, by their first items
		"+b -a ~x* | +main +a ?y* | ~b +x*": "b 0 FH, a 1 FH, x 2 H, main 1 FH, y 1 W",
		"-c -b -a | +a | +b | +c | +main":   "c 3 FH, b 2 FH, a 1 FH, main 4 FH",
		"+x* +main ~f | ~x* ~f | ?f +g":     "main 0 FH, f 0 FWH, x 0 H, g 2 FH",
		"+F ?f | -F ~f | +main +ff":         "F 0 FH, f 1 FWH, main 2 FH, ff 2 FH",
	} {
		expectDefs(t, text, want)
	}
}

// TestAllExample: P9.2, the document's example: of two definitions the second one is taken, if the first one is weak.
func TestAllExample(t *testing.T) {
	expectDefs(t, "~f +main | +f", "f 1 FH, main 0 FH")
}

// TestAllWrong: P9.2 and R1, of modules that aren't right the same is done: what isn't BLocal is shared, what isn't BStrong gives way, each place counts.
func TestAllWrong(t *testing.T) {
	for text, want := range map[string]string{
		"+main ^f":               "main 0 FH, f 0 FWH",
		"+main | _f* | %f*":      "main 0 FH, f 2 WH",
		"+main _f | _f":          "main 0 FH, f 0 FW",
		"+main ^f | %f | +f":     "main 0 FH, f 2 FH",
		"+main :f | :f*":         "main 0 FH",
		"^main":                  "main 0 FWH",
		"+main ~f ~f":            "main 0 FH, f 0 FWH",
		"+main -f | -f ~f +f ~f": "main 0 FH, f 1 FH",
		"+main +f-1 | -f-1":      "main 0 FH, f 0 FH",
		"+main | ?f99":           "main 0 FH, f 1 FW",
	} {
		expectDefs(t, text, want)
	}
	for text, e := range map[string]api.Errno{
		"+main +f +f":       api.ErrTwice,
		"+main +f* +f*":     api.ErrTwice,
		"+main +f ~f*":      api.ErrShape,
		"+main -f _f":       api.ErrNone,
		"+main ^f1 | %f2":   api.ErrShape,
		"+main +f0 | -f-1":  api.ErrShape,
		"_main":             api.ErrEntry,
		":main":             api.ErrEntry,
		"+main-1":           api.ErrEntry,
		"+main -f | :f =f*": api.ErrNone,
	} {
		expectError(t, text, e)
	}
	long := strings.Repeat("long", 10000)
	l := append(mods("+main"), api.Module{
		Funcs: []api.Func{{Name: "", Bind: 9, Params: 1 << 40}},
		Globs: []api.Glob{{Name: long, Bind: api.BWeak, Init: 5}, {Name: long[1:], Bind: api.BStrong, Here: true, Init: 1 << 63}},
	})
	expectAll(t, "a name of no bytes, and long ones", l, "main 0 FH,  1 FW, "+long+" 1 W, "+long[1:]+" 1 H", api.OK)
}

// TestAllBlocks: P9.2, a function is here by its blocks alone, whatever stands in them, a global by its Here, whatever its Init is.
func TestAllBlocks(t *testing.T) {
	m := mod("+main -x*")
	m.Funcs = append(m.Funcs, api.Func{Name: "f", Bind: api.BWeak, Blocks: []api.Block{}})
	m.Globs[0].Init = 7
	expectAll(t, "an Init of what isn't here", []api.Module{m}, "", api.ErrNone)
	m.Globs[0].Bind = api.BWeak
	expectAll(t, "no block", []api.Module{m}, "main 0 FH, f 0 FW, x 0 W", api.OK)
	m.Funcs[1].Blocks = make([]api.Block, 1)
	m.Globs[0] = api.Glob{Name: "x", Bind: api.BWeak, Here: true}
	expectAll(t, "a block of nothing", []api.Module{m}, "main 0 FH, f 0 FWH, x 0 WH", api.OK)
	m.Funcs[1].Blocks = make([]api.Block, 99)
	expectAll(t, "blocks of nothing", []api.Module{m}, "main 0 FH, f 0 FWH, x 0 WH", api.OK)
}
