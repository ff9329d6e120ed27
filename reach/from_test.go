package reach_test

import (
	"fmt"
	"slices"
	"strconv"
	"testing"

	"marline/api"
)

// TestFrom: P11.1, all that roots lead to, of modules that are right.
func TestFrom(t *testing.T) {
	for _, x := range []struct{ text, roots, want string }{
		// no roots
		{"", "", ""},
		{"+main:a =a", "", ""},
		{"+main +x*", "", ""},
		// roots that aren't in the module
		{"", "a", ""},
		{"+main:a =a", "b", ""},
		{"+main:a =a", "Main mai main2 .main", ""},
		{"+main:a =a =b", "c a d", "a"},
		// itself alone
		{"+main:a =a", "a", "a"},
		{"+main:a =a +x*", "x", "x"},
		{"+main -a ?x*", "x a", "a x"},
		// a chain
		{"+main:a =a:b =b:c =c =d:main", "main", "main a b c"},
		{"+main:a =a:b =b:c =c =d:main", "b", "b c"},
		{"+main:a =a:b =b:c =c =d:main", "d", "main a b c d"},
		{"=c =b:c =a:b +main:a", "a", "c b a"},
		{"=c =d =b:c =a:b,d +main:a", "main", "c d b a main"},
		// rings
		{"=a:a =b", "a", "a"},
		{"=a:b =b:a =c", "a", "a b"},
		{"=a:b =b:a =c", "b", "a b"},
		{"=a:b =b:c =c:a =d", "b", "a b c"},
		{"=a:b =b:c =c:a =d:c,e =e", "d", "a b c d e"},
		{"=a:b,b,a =b:b,a,b =c:c,a", "b", "a b"},
		{"=a:b,x* =b:a,y= =c:z* =x* =y* =z*", "a", "a b x y"},
		// two ways to one
		{"=a:b,c =b:d =c:d =d =e", "a", "a b c d"},
		{"=a:b,c =b:d =c:d =d =e", "c b", "b c d"},
		// globals: they lead to nothing
		{"+main:x*,y= =a:z* =x* =y* =z*", "main", "main x y"},
		{"+main:x*,y= =a:z* =x* =y* =z*", "z", "z"},
		{"+main:x*,y= =a:z* =x* =y* =z*", "x y", "x y"},
		{"=y* =x* +main:x*,y=", "main", "main y x"},
		{"+main:a =a:x= +x* -y*", "main y", "main a x y"},
		// in each block
		{"+main:a;b;;c,x* =a =b =c =d =x*", "main", "main a b c x"},
		{"+main:;;;a =a:;y= =b =x* =y*", "main", "main a y"},
		// in the order of the module, each once
		{"=c =b =a =z* =x* =y*", "x a y b a x x", "b a x y"},
		{"=c =b =a =z* =x* =y*", "a b c x y z", "c b a z x y"},
		{"+main:b,a,b =b:a =a", "a b main b", "main b a"},
		{"+main:b,x*,a,x=,x* =a:x* =b =x*", "main", "main a b x"},
		// what isn't here, and how it binds, is nothing to it
		{"+main:a,y* -a ?b -y* ?z*", "main", "main a y"},
		{"~main:a ?a =b:c +c", "b", "b c"},
		{"+main:a/3 ?a/3 =b/2", "main", "main a"},
	} {
		expectFrom(t, right(t, x.text), list(x.roots), list(x.want))
	}
	expectFrom(t, mod("+main"), nil, nil)
	expectFrom(t, mod("+main:a =a"), []string{"", "main\x00", "MAIN"}, nil)
}

// TestFromOps: P11.1, names lead on that stand in an ILoad, an IStore or an ICall, whatever is of that name; in others there is none.
func TestFromOps(t *testing.T) {
	for _, op := range []int{0, 1, 2, 3, 4, 5, 6, 7, 8, 9, 10, 11, 12, 13, 14, 15, 16, 17, 99, -1, -12, 1<<32 + 14, 1 << 62} {
		for _, name := range []string{"f", "x", "nobody", ""} {
			m := mod("=f:g =g =x*")
			m.Funcs = append(m.Funcs, line("main", api.BStrong, api.Inst{Op: api.IConst}, api.Inst{Op: op, Name: name}))
			want := "main"
			if op >= 12 && op <= 14 {
				want = map[string]string{"f": "f g main", "x": "main x"}[name]
			}
			if want == "" {
				want = "main"
			}
			expectFrom(t, m, []string{"main"}, list(want))
		}
	}
}

// TestFromTwice: P11.1, of a name that two functions have the first one's instructions count; a global of the name leads to nothing.
func TestFromTwice(t *testing.T) {
	for _, x := range []struct{ text, roots, want string }{
		{"=f:a =f:b =a =b", "f", "f a"},
		{"=f:b =f:a =a =b", "f", "f b"},
		{"=a =b =f:a =c =f:b", "f", "a f"},
		{"=f =f:b =b", "f", "f"},
		{"-f =f:b =b", "f", "f"},
		{"=f:b ?f =b", "f", "f b"},
		{"+main:f =f:f =f:b =b:c =c", "main", "main f"},
		{"+main:f =f:b =f:f =b:c =c", "main", "main f b c"},
		{"=f:a =f:a =a:f =a:c =c", "a", "f a"},
		// functions and globals
		{"=f:a =f* =a", "f", "f a"},
		{"=main:f* =f:a =f* =a", "main", "main f a"},
		{"=main:x,y= =x* =y:a =a =b", "main", "main y a x"},
		{"=main:x =x* =x* =y*", "main", "main x"},
		{"=x* =y* =x* =y*", "y x", "x y"},
		// no item of the name
		{"=main:z,y*,x=,a =a", "main", "main a"},
		{"=main:z =a", "main z", "main"},
	} {
		expectFrom(t, mod(x.text), list(x.roots), list(x.want))
	}
	m := api.Module{Funcs: []api.Func{line("", 1, api.Inst{Op: api.ICall, Name: "a"}), line("a", 1, api.Inst{Op: api.ILoad})}, Globs: make([]api.Glob, 2)}
	expectFrom(t, m, []string{""}, []string{"", "a"})
	expectFrom(t, m, []string{"a"}, []string{"", "a"})
}

// fromOf are the names that are reached, by the chapter's words: step by step, as long as there is one more.
func fromOf(m api.Module, roots []string) []string {
	all := namesIn(m)
	reached := map[string]bool{}
	for more := true; more; {
		more = false
		for _, name := range all {
			is := slices.Contains(roots, name)
			for other := range reached {
				is = is || leadsTo(m, other, name, api.ILoad, api.IStore, api.ICall)
			}
			if is && !reached[name] {
				reached[name], more = true, true
				break
			}
		}
	}
	var out []string
	for _, name := range all {
		if reached[name] && !slices.Contains(out, name) {
			out = append(out, name)
		}
	}
	return out
}

// TestFromAll: P11.1, random modules, right or not, held against the chapter's words.
func TestFromAll(t *testing.T) {
	met := map[int]int{}
	for start := range 4000 {
		r := randomFrom(start)
		m := r.someModule()
		var roots []string
		for range r.Below(4) {
			roots = append(roots, r.OneOf(pool...))
		}
		want := fromOf(m, roots)
		met[len(want)-len(roots)]++
		expectFrom(t, m, roots, want)
	}
	for more, least := range map[int]int{-1: 100, 0: 300, 1: 150, 2: 100, 3: 70} {
		if met[more] < least {
			t.Errorf("only %d lists have %d names more than roots", met[more], more)
		}
	}
}

// TestFromLong: P11.1 and R1, many functions, each of which leads to the next one.
func TestFromLong(t *testing.T) {
	m, want := chain(50000)
	expectFrom(t, m, []string{want[0]}, want)
	expectFrom(t, m, want[49990:], want[49990:])
	slices.Reverse(m.Funcs)
	back := slices.Clone(want)
	slices.Reverse(back)
	expectFrom(t, m, []string{want[0]}, back)
	expectFrom(t, m, []string{want[49990]}, back[:10])
}

// chain are so many functions, each of which calls the next one, and what their names are.
func chain(n int) (api.Module, []string) {
	var m api.Module
	for at := range n {
		m.Funcs = append(m.Funcs, line(strconv.Itoa(at), api.BLocal, api.Inst{Op: api.ICall, Name: strconv.Itoa(at + 1)}))
	}
	return m, namesIn(m)
}

// TestFromWide: P11.1 and R1, functions that all lead to each other, and often; one that leads to many.
func TestFromWide(t *testing.T) {
	var m api.Module
	var ins []api.Inst
	for at := range 400 {
		ins = append(ins, api.Inst{Op: 12 + at%3, Name: fmt.Sprint(at)})
	}
	for at := range 400 {
		m.Funcs = append(m.Funcs, line(fmt.Sprint(at), api.BLocal, ins...))
	}
	expectFrom(t, m, list("7 7 399"), namesIn(m))
	expectFrom(t, m, list("400"), nil)
	many, names := chain(5000)
	ins = nil
	for at := range many.Funcs {
		many.Funcs[at].Blocks = nil
		ins = append(ins, api.Inst{Op: api.ICall, Name: names[4999-at]})
	}
	many.Funcs = append(many.Funcs, line("main", api.BStrong, ins...))
	expectFrom(t, many, list("main"), append(names, "main"))
}
