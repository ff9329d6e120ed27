package pick_test

import (
	"fmt"
	"math"
	"slices"
	"strings"
	"testing"

	"marline/api"
)

// TestNames: P8.1, modules of all sorts.
func TestNames(t *testing.T) {
	for _, x := range []struct {
		why            string
		m              api.Module
		defines, wants []string
	}{
		{"nothing", api.Module{}, nil, nil},
		{"the document's example, the object", mod("+main -f"), []string{"main"}, []string{"f"}},
		{"the document's example, the archive's", mod("+f"), []string{"f"}, nil},
		{"functions of each sort", mod("+a ~b =c -d ?e"), []string{"a", "b"}, []string{"d"}},
		{"globals of each sort", mod("+A ~B =C -D ?E"), []string{"A", "B"}, []string{"D"}},
		{"functions ahead of globals", mod("+Z +z -Y -y +A ~a -B -b"), []string{"z", "a", "Z", "A"}, []string{"y", "b", "Y", "B"}},
		{"each in order, not by letters", mod("+c +a +b +C +A +B -f -d -e -F -D -E"), []string{"c", "a", "b", "C", "A", "B"}, []string{"f", "d", "e", "F", "D", "E"}},
		{"others between", mod("=x +a ?y =z ~b =X ?Y +A =Z ~B"), []string{"a", "b", "A", "B"}, nil},
		{"others between, that is wanted", mod("?x -a +y ?z -b =X ?Y -A ~Z -B"), []string{"y", "Z"}, []string{"a", "b", "A", "B"}},
		{"functions alone that are for itself", mod("=a =b"), nil, nil},
		{"what is wanted weakly alone", mod("?a ?B"), nil, nil},
		{"great letters and small ones", mod("+f -F"), []string{"f"}, []string{"F"}},
	} {
		expectNames(t, x.why, x.m, x.defines, x.wants)
	}
}

// TestNamesBinds: P8.1, an item of each Bind, also of such that may not be, which are neither BLocal nor BStrong.
func TestNamesBinds(t *testing.T) {
	for _, bind := range []int{math.MinInt, -3, -2, -1, 0, 1, 2, 3, 4, 5, 1 << 32, 1<<32 + 1, 1<<32 + 2, math.MaxInt} {
		var defines, wants []string
		if bind != 1 {
			defines = []string{"n"}
		}
		if bind == 2 {
			wants = []string{"n"}
		}
		f, g := seven("n", bind), api.Glob{Name: "n", Bind: bind, Here: true}
		why := fmt.Sprint("Bind ", bind)
		expectNames(t, why+", with blocks", api.Module{Funcs: []api.Func{f}}, defines, nil)
		expectNames(t, why+", Here", api.Module{Globs: []api.Glob{g}}, defines, nil)
		for _, blocks := range [][]api.Block{nil, {}, f.Blocks[:0]} {
			f.Blocks = blocks
			expectNames(t, why+", without blocks", api.Module{Funcs: []api.Func{f}}, nil, wants)
		}
		f.Blocks = make([]api.Block, 20)
		expectNames(t, why+", with blocks of nothing", api.Module{Funcs: []api.Func{f}}, defines, nil)
		g.Here = false
		expectNames(t, why+", not Here", api.Module{Globs: []api.Glob{g}}, nil, wants)
		g.Init = 5
		expectNames(t, why+", not Here, with Init", api.Module{Globs: []api.Glob{g}}, nil, wants)
	}
}

// TestNamesAlone: P8.1, names hang on how they bind and whether they are here, not on what instructions name.
func TestNamesAlone(t *testing.T) {
	uses := line("main", api.BLocal, api.Inst{Op: api.ICall, Name: "w"}, api.Inst{Op: api.ILoad, Name: "W"}, api.Inst{Op: api.ICall, Name: "nowhere"})
	m := mod("?w -unused ?W -Unused")
	m.Funcs = append(m.Funcs, uses)
	expectNames(t, "what is named, and what isn't", m, nil, []string{"unused", "Unused"})
	m = mod("=w +unused =W +Unused")
	m.Funcs = append(m.Funcs, uses)
	expectNames(t, "what is named and here", m, []string{"unused", "Unused"}, nil)
}

// TestNamesOdd: P8.1 and R1, names of modules that aren't right are told likewise.
func TestNamesOdd(t *testing.T) {
	long := strings.Repeat("n", 300)
	odd := []string{"", "\x00", "\xff\xfe", "n n", "é", long}
	var d, w api.Module
	for _, name := range odd {
		d.Funcs = append(d.Funcs, seven(name, api.BStrong))
		w.Funcs = append(w.Funcs, api.Func{Name: name, Bind: api.BStrong, Params: -1})
	}
	expectNames(t, "functions with odd names", d, odd, nil)
	expectNames(t, "functions with odd names, that are wanted", w, nil, odd)
	for _, name := range odd {
		d.Globs = append(d.Globs, api.Glob{Name: name, Bind: api.BWeak, Here: true})
		w.Globs = append(w.Globs, api.Glob{Name: name, Bind: api.BStrong})
	}
	expectNames(t, "globals of the same names", d, append(odd, odd...), nil)
	expectNames(t, "globals of the same names, that are wanted", w, nil, append(odd, odd...))
	expectNames(t, "names twice", mod("+a +a -a -b -b +A -A +A -B"), []string{"a", "a", "A", "A"}, []string{"a", "b", "b", "A", "B"})
	var many api.Module
	var names []string
	for n := range 100 {
		names = append(names, fmt.Sprint("n", n))
		many.Funcs = append(many.Funcs, seven(names[n], api.BStrong))
	}
	expectNames(t, "more than a right module has", many, names, nil)
}

// definesName: does a module define that name, by the chapter's words?
func definesName(m api.Module, name string) bool {
	for _, f := range m.Funcs {
		if f.Name == name && len(f.Blocks) != 0 && (f.Bind == api.BStrong || f.Bind == api.BWeak) {
			return true
		}
	}
	for _, g := range m.Globs {
		if g.Name == name && g.Here && (g.Bind == api.BStrong || g.Bind == api.BWeak) {
			return true
		}
	}
	return false
}

// wantsName: does it want that name?
func wantsName(m api.Module, name string) bool {
	for _, f := range m.Funcs {
		if f.Name == name && len(f.Blocks) == 0 && f.Bind == api.BStrong {
			return true
		}
	}
	for _, g := range m.Globs {
		if g.Name == name && !g.Here && g.Bind == api.BStrong {
			return true
		}
	}
	return false
}

// itemNames are the names of all functions and globals, in order.
func itemNames(m api.Module) []string {
	var l []string
	for _, f := range m.Funcs {
		l = append(l, f.Name)
	}
	for _, g := range m.Globs {
		l = append(l, g.Name)
	}
	return l
}

// someMod is a right module of a few items, whose names are such that other modules have, too.
func (r *random) someMod() api.Module {
	const often = "++~=---?"
	names := strings.Fields("a b c d e f A B C D E F")
	var words []string
	for range r.below(7) {
		at := r.below(len(names))
		words = append(words, string(often[r.below(len(often))])+names[at])
		names = slices.Delete(names, at, at+1)
	}
	return mod(strings.Join(words, " "))
}

// TestNamesRandom: P8.1, rows of random modules, against the chapter's words.
func TestNamesRandom(t *testing.T) {
	defined, wanted := 0, 0
	for start := range 3000 {
		r := random(start)
		m := r.someMod()
		var defines, wants []string
		for _, name := range itemNames(m) {
			if definesName(m, name) {
				defines = append(defines, name)
			}
			if wantsName(m, name) {
				wants = append(wants, name)
			}
		}
		expectNames(t, fmt.Sprint("row ", start), m, defines, wants)
		defined += len(defines)
		wanted += len(wants)
	}
	if defined < 1000 || wanted < 1000 {
		t.Errorf("%d defined, %d wanted", defined, wanted)
	}
}
