package reach_test

import (
	"slices"
	"testing"

	"marline/api"
)

// TestDrop: P11.2, what isn't reached from what stays is left out; all else is as it was, in its order.
func TestDrop(t *testing.T) {
	for text, want := range map[string]string{
		// all of it is
		"=a":                      "",
		"=a =x*":                  "",
		"~a ?b =c ~x* ?y* =z*":    "",
		"=a:b =b:a ~c:a,x* =x*":   "",
		"~main* =x*":              "",
		"=Main =mai =main2 ?amin": "",
		// some of it is
		"+main:f =f =g":                            "+main:f =f", // the document's example
		"=g +main:f =f":                            "+main:f =f",
		"=g:main +main:f =f":                       "+main:f =f",
		"+main =a:b =b:a":                          "+main",
		"+main:c =a:b,c =b:a =c:d =d:c =e:d":       "+main:c =c:d =d:c",
		"+main:x* =x*#1 =y*#2 =z*#3":               "+main:x* =x*#1",
		"+main:y= =x*#1 =y*#2 =z*#3":               "+main:y= =y*#2",
		"=f:x* +main:y= =x* =y*":                   "+main:y= =y*",
		"+main ~a ?b =c ~x* ?y* =z*":               "+main",
		"=main:a ~a =b":                            "=main:a ~a",
		"?main =a":                                 "?main",
		"~main/2 ~a/2#6 ~b":                        "~main/2",
		"+main:c =b =a =c:b +x* =y*":               "+main:c =b =c:b +x*",
		"+main:a,a,x*,x= =a:a =b:a,x* =x* =y*":     "+main:a,a,x*,x= =a:a =x*",
		"=b:c +a:c =c:x* =d:y* =x* =y* +z* ~w*":    "+a:c =c:x* =x* +z*",
		"+main:;a;;x= =a:;;b =b:;y* =c =x* =y*":    "+main:;a;;x= =a:;;b =b:;y* =x* =y*",
		"+main#5:a/2;x* ~a/2#9 ?b -c ~x* ~d:b,a/2": "+main#5:a/2;x* ~a/2#9 -c ~x*",
	} {
		expectDrop(t, right(t, text), mod(want))
	}
}

// TestDropNothing: P11.2, modules of which nothing is dropped.
func TestDropNothing(t *testing.T) {
	for _, text := range []string{
		"",
		"+main",
		"+main +x*",
		"-main -a -x*",
		"+main:a,x* =a:y= =x* =y*",
		"+a:b +c:d =b:x* =d:b ~main =x*#7 +y*",
		"=c =b:c =a:b +main:a",
		"+main:a,b,c,d ?a ~b =c -d +x*#1 -y*",
		"+main:x*,y*,z* +w* ~x*#1 ?y* =z*#2",
		"+main:;;;a;b;y= =a =b +x* ~y*#18446744073709551615",
	} {
		expectDrop(t, right(t, text), mod(text))
	}
}

// TestDropTwice: P11.2, of a name that stays all items stay, though what leads on is the first function of it.
func TestDropTwice(t *testing.T) {
	for text, want := range map[string]string{
		"+f:a =f:b =a =b":              "+f:a =f:b =a",
		"=f:b +f:a =a =b":              "=f:b +f:a =b",
		"=f:b =a +f:a =b":              "=f:b +f:a =b",
		"+main:f ?f =f:b =b":           "+main:f ?f =f:b",
		"+f:a =f* =a =b":               "+f:a =f* =a",
		"=f:a +f* =a =b":               "=f:a +f* =a",
		"=main:f* =f:a =f* =a =b":      "=main:f* =f:a =f* =a",
		"+x*#1 =x*#2 =y*":              "+x*#1 =x*#2",
		"=x*#1 ~x*#2 =y* +y*":          "=y* +y*",
		"=main:a ~main:b =main* =a =b": "=main:a ~main:b =main* =a",
		"~main:z,y*,x=,a =a =b":        "~main:z,y*,x=,a =a",
		"=a =a* =b =b =x* =x*":         "",
	} {
		expectDrop(t, mod(text), mod(want))
	}
	m := api.Module{Funcs: []api.Func{{Name: "f", Bind: 7}, line("", 2, api.Inst{Op: api.ILoad, Name: "x"})}, Globs: []api.Glob{{Init: 7}, {Name: "x", Bind: -2, Init: 8}, {Name: "y"}}}
	expectDrop(t, m, api.Module{Funcs: m.Funcs[1:], Globs: m.Globs[:2]})
}

// TestDropWhatIs: P11.2, what stays is the same in each field, also where it isn't right.
func TestDropWhatIs(t *testing.T) {
	f := api.Func{Name: "main", Bind: api.BLocal, Params: 2, Blocks: []api.Block{
		{Params: 2, Ins: []api.Inst{{Op: api.IAdd, A: 0, B: 1}, {Op: api.ICall, Name: "f", Args: []int{2, 1}}, {Op: api.IConst, K: 1<<64 - 1}}, End: api.Term{Kind: api.TIf, A: 2, To: 1, Args: []int{3, 2, 1}, Else: 2, Elses: []int{4}}},
		{Params: 3, Ins: []api.Inst{{Op: -3, A: -4, B: 1 << 60, K: 5, Name: "x", Args: []int{-1}}}, End: api.Term{Kind: 77, A: -1, To: -2, Else: 99, Args: []int{1 << 62}, Elses: []int{-8}}},
		{Params: -1},
	}}
	g := api.Func{Name: "f", Bind: -5, Params: 1 << 40, Blocks: []api.Block{{}, {}}}
	m := api.Module{Funcs: []api.Func{{Name: "e"}, f, {Name: "g"}, g, {}}, Globs: []api.Glob{{Name: "f", Bind: 9, Init: 1<<64 - 1}, {Name: "x", Here: true}}}
	expectDrop(t, m, api.Module{Funcs: []api.Func{f, g}, Globs: m.Globs[:1]})
}

// dropped is a module without what isn't reached, by the chapter's words.
func dropped(m api.Module) api.Module {
	var roots []string
	for at, name := range namesIn(m) {
		if at < len(m.Funcs) && (m.Funcs[at].Bind == 2 || name == "main") || at >= len(m.Funcs) && m.Globs[at-len(m.Funcs)].Bind == 2 {
			roots = append(roots, name)
		}
	}
	stay := fromOf(m, roots)
	var out api.Module
	for _, f := range m.Funcs {
		if slices.Contains(stay, f.Name) {
			out.Funcs = append(out.Funcs, f)
		}
	}
	for _, g := range m.Globs {
		if slices.Contains(stay, g.Name) {
			out.Globs = append(out.Globs, g)
		}
	}
	return out
}

// TestDropAll: P11.2, random modules, right or not, held against the chapter's words.
func TestDropAll(t *testing.T) {
	met := map[int]int{}
	for start := range 4000 {
		m := randomFrom(start + 1<<41).someModule()
		want := dropped(m)
		met[min(len(namesIn(m))-len(namesIn(want)), 3)]++
		if len(want.Funcs)+len(want.Globs) > 0 {
			met[9]++
		}
		expectDrop(t, m, want)
	}
	for n, least := range map[int]int{0: 200, 1: 200, 2: 200, 3: 500, 9: 2000} {
		if met[n] < least {
			t.Errorf("only %d modules lose %d items, or keep some", met[n], n)
		}
	}
}
