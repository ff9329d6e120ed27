package merge_test

import (
	"fmt"
	"slices"
	"strings"
	"testing"

	"marline/api"
	"marline/merge"
	"marline/resolve"
)

// TestAllOrder: P10.3, module by module, each one's functions in order, and likewise its globals.
func TestAllOrder(t *testing.T) {
	for text, want := range map[string]string{
		"+main":                     "+main",
		"~main#9":                   "+main#9",
		"+b +main +a":               "=b +main =a",
		"+main +y* +x*":             "+main =y* =x*",
		"+y* +main +x* +a":          "+main =a =y* =x*",
		"+z#1 | +main#2 | +a#3":     "=z#1 +main#2 =a#3",
		"+z*#1 | +main +y*#2 | +x*": "+main =z*#1 =y*#2 =x*",
		"+b +x* | +main +w* | +a":   "=b +main =a =x* =w*",
		"| | +main | ":              "+main",
		"=b =x*#3 +main =a":         "=.0 +main =.1 =.2*#3",
		"+main =f#1 | =f#2 | =f#3":  "+main =.0#1 =.1#2 =.2#3",
		"+main =f | +f | =f*#8":     "+main =.0 =f =.1*#8",
		"=b#1 +main =a*#2 +c#3 ~d*#4 | =e#5 +f#6 =g*#7 ~h*#8": "=.0#1 +main =c#3 =.2#5 =f#6 =.1*#2 =d*#4 =.3*#7 =h*#8",
		"=a =b | +main | =a =b":                               "=.0 =.1 +main =.2 =.3",
	} {
		expectMerged(t, text, "", want)
	}
}

// TestAllDefinitions: P10.3, of what isn't local each name's definition, and that alone.
func TestAllDefinitions(t *testing.T) {
	for text, want := range map[string]string{
		// what stands elsewhere
		"+main:f -f | +f#1":             "+main:f =f#1",
		"+f#1 | +main:f -f":             "=f#1 +main:f",
		"+main:x* -x* | +x*#1":          "+main:x* =x*#1",
		"+main:f/2 ?f/2 | -f/2 | +f/2":  "+main:f/2 =f/2",
		"-main | +main":                 "+main",
		"?main | +a | ~main#4":          "=a +main#4",
		"=main:a +a | +main:a -a":       "=.0:a =a +main:a",
		"+main:x= -x* | =x*#2 | ~x*#3 ": "+main:x= =.0*#2 =x*#3",
		// a weak one beside a strong one
		"+main ~f#1 | +f#2":                      "+main =f#2",
		"+main | ~f#1 +a | +f#2 +b":              "+main =a =f#2 =b",
		"+main | +f#1 | ~f#2":                    "+main =f#1",
		"+main ~x*#1 | +x*#2 | ~x*#3":            "+main =x*#2",
		"~main#1 | +main#2 | ~main#3":            "+main#2",
		"+main:f ~f#1:g ~g#2 | +f#3:g -g":        "+main:f =g#2 =f#3:g",
		"+main | ~f/1#1 ~g/1#2 | +g/1#3 | ~f/1 ": "+main =f/1#1 =g/1#3",
		// weak ones alone: the first that is there
		"+main ~f#1 | ~f#2":            "+main =f#1",
		"+main ?f | ~f#1 | ~f#2":       "+main =f#1",
		"+main -f | ?f | ~f#1 | ~f#2 ": "+main =f#1",
		"+main ?x* | ~x*#1 | ~x*#2":    "+main =x*#1",
		"+main ~x*#0 | ~x*#2":          "+main =x*",
		"~main#1 | ~main#2":            "+main#1",
		// weak ones that are nowhere: 0, where the first item stands
		"+main ?f":                            "+main =f",
		"?f +main":                            "=f +main",
		"+main:f/6 ?f/6":                      "+main:f/6 =f/6",
		"+main ?f/2 +a | ?f/2 +b":             "+main =f/2 =a =b",
		"+main +a | +b ?f/1 +c | ?f/1 ?g":     "+main =a =b =f/1 =c =g",
		"+main ?x*":                           "+main =x*",
		"+main:x* ?x* +y*#1 | ?x*":            "+main:x* =x* =y*#1",
		"+main +a* | +b*#2 ?x* +c* | ?x* ?y*": "+main =a* =b*#2 =x* =c* =y*",
		"+main =f#1 | ?f/3 =x*#5 | ?x*":       "+main =.0#1 =f/3 =.1*#5 =x*",
		"+main | =f:g ?g":                     "+main =.0:g =g",
		"?main | ~main | ?a":                  "+main =a",
	} {
		expectMerged(t, text, "", want)
	}
}

// TestAllNames: P10.3, in all that is taken over the names of what was local are the new ones, those of its own module.
func TestAllNames(t *testing.T) {
	for text, want := range map[string]string{
		"+main:f =f#1":                               "+main:.0 =.0#1",
		"+main:x*,x= =x*#1":                          "+main:.0*,.0= =.0*#1",
		"+main =f#1:f":                               "+main =.0#1:.0",
		"+main:f =f#1 | +g:f =f#2":                   "+main:.0 =.0#1 =g:.1 =.1#2",
		"+main:f,g =f/0#1 -g | +g:f =f#2":            "+main:.0,g =.0#1 =g:.1 =.1#2",
		"+main:f -f | +f:g =g#1 | =g#2:f -f":         "+main:f =f:.0 =.0#1 =.1#2:f",
		"+main:f =f#1 | +f#2 | +g:f -f":              "+main:.0 =.0#1 =f#2 =g:f",
		"+main:x* =x*#1 | +x*#2 | +g:x= -x*":         "+main:.0* =g:x= =.0*#1 =x*#2",
		"+main:f,x* =f/0:x= =x* | =f/3:x=,f/3 =x*#7": "+main:.0,.1* =.0:.1= =.2/3:.3=,.2/3 =.1* =.3*#7",
		// a new name that is another one's old one
		"+main:.1,.0 =.1#1 =.0#2":         "+main:.0,.1 =.0#1 =.1#2",
		"+main:.0,.1* =.1*#1 =.0#2":       "+main:.0,.1* =.0#2 =.1*#1",
		"+main:.1 =.1#1:.2 =.2#2:.1":      "+main:.0 =.0#1:.1 =.1#2:.0",
		"+main:.0 -.0 | +.0#1 =.1#2":      "+main:.0 =.0#1 =.1#2",
		"+main:.0 -.0 =f#3 | +.0#1 =.1#2": "+main:.0 =.1#3 =.0#1 =.2#2",
		"+main:.0 =.0#3 | +.0#1:.1 =.1#2": "+main:.1 =.1#3 =.0#1:.2 =.2#2",
		"+main:.0 ?.0 =f | ?.1* =x*#4":    "+main:.0 =.0 =.2 =.1* =.3*#4",
	} {
		expectMerged(t, text, "", want)
	}
}

// TestAllBinds: P10.3, what is main's, or a kept name's, and wasn't local, is strong; all else is local.
func TestAllBinds(t *testing.T) {
	for _, x := range []struct{ text, keep, want string }{
		{"+main +f +x*", "", "+main =f =x*"},
		{"+main +f +x*", "f", "+main +f =x*"},
		{"+main +f +x*", "x", "+main =f +x*"},
		{"+main +f +x*", "x f", "+main +f +x*"},
		{"+main +f +x*", "main", "+main =f =x*"},
		{"+main +f +x*", "f f main f main", "+main +f =x*"},
		{"~main ~f ~x*", "f x", "+main +f +x*"},
		{"~main ~f ~x* ~g ~y*", "g y", "+main =f +g =x* +y*"},
		{"+main ~f#1 | +f#2 | ~f#3", "f", "+main +f#2"},
		{"+main ?f | ~f#1 | ~f#2", "f", "+main +f#1"},
		{"+main -x* | =x*#1 | ~x*#2", "x", "+main =.0*#1 +x*#2"},
		// what was local, and has a kept one's name, or main's
		{"+main =f#1 | +f#2", "f", "+main =.0#1 +f#2"},
		{"+f#2 | =f#1 +main", "f", "+f#2 =.0#1 +main"},
		{"=f*#1 +main:f* | +f#2", "f", "+main:.0* +f#2 =.0*#1"},
		{"+main =x*#1 | +x*#2", "x", "+main =.0*#1 +x*#2"},
		{"=main#1 | +main#2 | =main*#3", "main", "=.0#1 +main#2 =.1*#3"},
		{"=main#1:main +f:main | +main#2 | =main*#3", "", "=.0#1:.0 =f:.0 +main#2 =.1*#3"},
		{"+main =.0#1 | +.0#2", ".0", "+main =.1#1 +.0#2"},
		// names that aren't quite kept
		{"+main +f +ff +F", "ff", "+main =f +ff =F"},
		{"+main +Main +mai", "", "+main =Main =mai"},
	} {
		expectMerged(t, x.text, x.keep, x.want)
	}
}

// TestAllWhatIs: P10.3, what is taken over stays as it was, in all but names and Bind.
func TestAllWhatIs(t *testing.T) {
	f := api.Func{Name: "f", Bind: api.BWeak, Params: 2, Blocks: []api.Block{
		{Params: 2, Ins: []api.Inst{{Op: api.IAdd, A: 0, B: 1}, {Op: api.ICall, Name: "f", Args: []int{2, 1}}, {Op: api.IStore, A: 3, Name: "x"}}, End: api.Term{Kind: api.TIf, A: 2, To: 1, Args: []int{3, 2, 1}, Else: 2, Elses: []int{4}}},
		{Params: 3, Ins: []api.Inst{{Op: api.ILoad, Name: "x"}}, End: api.Term{Kind: api.TJump, To: 0, Args: []int{3, 0}}},
		{Params: 1, Ins: []api.Inst{{Op: api.IRead}, {Op: api.IWrite, A: 1}, {Op: api.IConst, K: 1<<64 - 1}}, End: api.Term{Kind: api.TRet, A: 3}},
	}}
	m := mod("+main =x*")
	m.Funcs = append(m.Funcs, f)
	m.Globs[0].Init = 1<<64 - 1
	want := mod("+main =.0*")
	want.Globs[0].Init = 1<<64 - 1
	names := map[string]string{"x": ".0"}
	want.Funcs = append(want.Funcs, otherwise(f, names))
	want.Funcs[1].Bind = api.BLocal
	expectAll(t, "a function of all sorts", []api.Module{m}, nil, want, api.OK)
	want.Funcs[1].Bind = api.BStrong
	expectAll(t, "a function of all sorts", []api.Module{m}, []string{"f"}, want, api.OK)
	expectSound(t, "a function of all sorts", want)
}

// TestAllNought: P10.3, a weak function that is nowhere is one of one block that gives back 0, for all Params.
func TestAllNought(t *testing.T) {
	for n := range 7 {
		l := []api.Module{mod("+main"), {Funcs: []api.Func{{Name: "f", Bind: api.BWeak, Params: n, Blocks: []api.Block{}}}}}
		want := mod("+main")
		want.Funcs = append(want.Funcs, api.Func{Name: "f", Bind: api.BLocal, Params: n, Blocks: []api.Block{
			{Params: n, Ins: []api.Inst{{Op: api.IConst}}, End: api.Term{Kind: api.TRet, A: n}},
		}})
		expectAll(t, fmt.Sprint("Params ", n), l, nil, want, api.OK)
		expectSound(t, fmt.Sprint("Params ", n), want)
	}
	want := mod("+main")
	want.Globs = []api.Glob{{Name: "x", Bind: api.BLocal, Here: true}}
	expectAll(t, "a global", mods("+main ?x* | ?x*"), nil, want, api.OK)
}

// TestAllWrong: P10.3 and R1, of modules that aren't right the same is done: of the items of a name in its module the first one that is there.
func TestAllWrong(t *testing.T) {
	for text, want := range map[string]string{
		"+main -f +f#1 ~f#2":        "+main =f#1",
		"+main ~f#1 +f#2":           "+main =f#1",
		"+main ?f ?f +g | ?f":       "+main =f =g",
		"+main -x* ~x*#1 +x*#2":     "+main =x*#1",
		"+main ?x* +y*#1 ?x*":       "+main =x* =y*#1",
		"+main ?f ?x* ~f#3 | ?f":    "+main =f#3 =x*",
		"~main#1 +main#2 | ~main#3": "+main#1",
	} {
		expectAll(t, text, mods(text), nil, mod(want), api.OK)
	}
	l := mods("+main ?x*")
	l[0].Globs[0].Init = 5
	expectAll(t, "an Init of what isn't here", l, nil, mod("+main =x*"), api.OK)
	for _, l := range [][]api.Module{
		{{Funcs: []api.Func{{Name: "main", Bind: 7, Blocks: make([]api.Block, 1)}, {Name: "", Bind: 1}, {Bind: 2, Blocks: make([]api.Block, 99)}}}},
		{{Funcs: []api.Func{{Name: "main", Bind: 7, Blocks: make([]api.Block, 1)}, {Name: "f", Bind: -1, Params: -1 << 63}, {Name: "g", Params: 1 << 62}}}},
		{{Funcs: []api.Func{{Name: "main", Bind: 2, Blocks: []api.Block{{Ins: make([]api.Inst, 3), End: api.Term{To: -1}}}}}, Globs: []api.Glob{{Bind: 99, Name: strings.Repeat("long", 9999)}}}},
	} {
		if m, e := merge.All(l, nil); e != api.OK || len(m.Funcs)+len(m.Globs) != len(l[0].Funcs)+len(l[0].Globs) {
			t.Errorf("All answers %.200s, %d", told(m), e)
		}
	}
}

// nowhere is what stands for a weak function that nothing defines.
func nowhere(f api.Func) api.Func {
	return api.Func{Name: f.Name, Params: f.Params, Blocks: []api.Block{{Params: f.Params, Ins: []api.Inst{{Op: api.IConst}}, End: api.Term{Kind: api.TRet, A: f.Params}}}}
}

// mergedOf is what All answers of right modules, by the chapter's words.
func mergedOf(l []api.Module, keep []string) (api.Module, api.Errno) {
	defs, e := resolve.All(l)
	if e != api.OK {
		return api.Module{}, e
	}
	for _, name := range keep {
		if d, is := resolve.Find(defs, name); !is || !d.Here {
			return api.Module{}, api.ErrNone
		}
	}
	names := namesOf(l)
	bind := func(name string) int {
		if name == "main" || slices.Contains(keep, name) {
			return api.BStrong
		}
		return api.BLocal
	}
	var out api.Module
	for at, m := range l {
		for _, f := range m.Funcs {
			d, _ := resolve.Find(defs, f.Name)
			if f.Bind == api.BLocal {
				out.Funcs = append(out.Funcs, otherwise(f, names[at]))
			} else if d.Mod == at {
				if !d.Here {
					f = nowhere(f)
				}
				f.Bind = bind(f.Name)
				out.Funcs = append(out.Funcs, otherwise(f, names[at]))
			}
		}
		for _, g := range m.Globs {
			d, _ := resolve.Find(defs, g.Name)
			if g.Bind == api.BLocal {
				g.Name = names[at][g.Name]
				out.Globs = append(out.Globs, g)
			} else if d.Mod == at {
				out.Globs = append(out.Globs, api.Glob{Name: g.Name, Bind: bind(g.Name), Here: true, Init: g.Init})
			}
		}
	}
	if len(out.Funcs) > 16 || len(out.Globs) > 16 {
		return api.Module{}, api.ErrBig
	}
	return out, api.OK
}

// someKeep are names to be kept.
func (r *random) someKeep() []string {
	var keep []string
	for r.Below(3) == 0 {
		keep = append(keep, named[r.Below(len(named))])
	}
	return keep
}

// TestAllRandom: P10.3, random modules, held against the chapter's words.
func TestAllRandom(t *testing.T) {
	met := map[api.Errno]int{}
	for start := range 12000 {
		r := randomFrom(start)
		l, keep := r.someModules(), r.someKeep()
		want, e := mergedOf(l, keep)
		met[e]++
		expectAll(t, fmt.Sprint("row ", start), l, keep, want, e)
		if e == api.OK {
			expectSound(t, fmt.Sprint("row ", start), want)
		}
	}
	for e, least := range map[api.Errno]int{api.OK: 1500, api.ErrTwice: 300, api.ErrNone: 1000, api.ErrEntry: 1000, api.ErrBig: 20} {
		if met[e] < least {
			t.Errorf("error %d is met %d times alone", e, met[e])
		}
	}
}
