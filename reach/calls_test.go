package reach_test

import (
	"fmt"
	"slices"
	"testing"

	"marline/api"
)

// TestCalls: P11.1, the names of a function's ICalls, each once, by their first place.
func TestCalls(t *testing.T) {
	for _, x := range []struct{ text, name, want string }{
		{"+main:a =a", "main", "a"},
		{"+main:a =a", "a", ""},
		{"+main:b,a =a =b", "main", "b a"},
		// a name that isn't there, and a global's
		{"", "main", ""},
		{"+main:a =a", "b", ""},
		{"+main:a =a", "mai", ""},
		{"+main:x* =x*", "x", ""},
		// one twice
		{"+main:a,a =a", "main", "a"},
		{"+main:b,a,b,c,a =a =b =c", "main", "b a c"},
		{"+main:c,c,b,c,b,a,c =a =b =c", "main", "c b a"},
		// itself
		{"+main:main", "main", "main"},
		{"+main:a,main,a,main =a", "main", "a main"},
		// in several blocks
		{"+main:b;a;b,c =a =b =c", "main", "b a c"},
		{"+main:;;c;b =b =c", "main", "c b"},
		// loads and stores are no calls
		{"+main:x*,a,y= =a =x* =y*", "main", "a"},
		{"+main:x*,y= =x* =y*", "main", ""},
		// just its own, not those of what it calls
		{"+main:a =a:b =b:c =c", "main", "a"},
		{"+main:a =a:b =b:c =c", "b", "c"},
		// with arguments, and of what isn't here
		{"+main:a/2,b/6 =a/2 -b/6", "main", "a b"},
		{"+main:a -a", "a", ""},
	} {
		expectCalls(t, right(t, x.text), x.name, list(x.want))
	}
}

// TestCallsWrong: P11.1, of modules that aren't right, too.
func TestCallsWrong(t *testing.T) {
	for _, x := range []struct{ text, name, want string }{
		// that the module doesn't have
		{"+main:z", "main", "z"},
		{"+main:z,a,y,z =a", "main", "z a y"},
		{"=z:main +main:z", "z", "main"},
		// that is a global, or both
		{"+main:x =x*", "main", "x"},
		{"+main:x*,x,x= =x*", "main", "x"},
		{"+main:x,a,x =x* =a", "main", "x a"},
		{"=x:a =x* =a", "x", "a"},
		{"=a* =x:a =x*", "x", "a"},
		// the first of two functions
		{"=f:a =f:b =a =b", "f", "a"},
		{"=f =f:b =b", "f", ""},
		{"-f =f:b =b", "f", ""},
		{"=b =f:b ?f", "f", "b"},
		// a load or store of a function
		{"+main:a*,b= =a =b", "main", ""},
		{"+main:a*,b,a,b=,a* =a =b", "main", "b a"},
	} {
		expectCalls(t, mod(x.text), x.name, list(x.want))
	}
	m := api.Module{Funcs: []api.Func{line("", 1, api.Inst{Op: api.ICall, Name: "b"}, api.Inst{Op: api.ICall}, api.Inst{Op: api.ICall, Name: "b"})}}
	expectCalls(t, m, "", []string{"b", ""})
	expectCalls(t, m, "b", nil)
}

// TestCallsOps: P11.1, no other Op is a call.
func TestCallsOps(t *testing.T) {
	for _, op := range []int{0, 1, 2, 3, 4, 5, 6, 7, 8, 9, 10, 11, 12, 13, 14, 15, 16, 17, 99, -1, -14, 1<<32 + 14, 1<<8 + 14} {
		m := mod("=a =b =a*")
		m.Funcs = append(m.Funcs, line("main", api.BStrong, api.Inst{Op: op, Name: "a"}, api.Inst{Op: api.ICall, Name: "b"}))
		want := "b"
		if op == 14 {
			want = "a b"
		}
		expectCalls(t, m, "main", list(want))
	}
}

// callsOf are the names that the first function of a name calls, by the chapter's words.
func callsOf(m api.Module, name string) []string {
	at := slices.IndexFunc(m.Funcs, func(f api.Func) bool { return f.Name == name })
	if at < 0 {
		return nil
	}
	var out []string
	for _, b := range m.Funcs[at].Blocks {
		for _, i := range b.Ins {
			if i.Op == 14 && !slices.Contains(out, i.Name) {
				out = append(out, i.Name)
			}
		}
	}
	return out
}

// TestCallsAll: P11.1, random modules, right or not, held against the chapter's words.
func TestCallsAll(t *testing.T) {
	met := map[int]int{}
	for start := range 2000 {
		m := randomFrom(start + 1<<40).someModule()
		for _, name := range pool {
			want := callsOf(m, name)
			met[len(want)]++
			expectCalls(t, m, name, want)
		}
	}
	for n, least := range map[int]int{0: 1000, 1: 500, 2: 100, 3: 10} {
		if met[n] < least {
			t.Errorf("only %d functions call %d", met[n], n)
		}
	}
}

// TestCallsMany: P11.1 and R1, a function that calls many.
func TestCallsMany(t *testing.T) {
	var ins []api.Inst
	var want []string
	for at := range 30000 {
		want = append(want, fmt.Sprint("f", at))
		ins = append(ins, api.Inst{Op: api.ICall, Name: want[at]}, api.Inst{Op: api.ICall, Name: want[at/2]}, api.Inst{Op: api.ILoad, Name: fmt.Sprint(at)})
	}
	expectCalls(t, api.Module{Funcs: []api.Func{line("main", 2, ins...)}}, "main", want)
}
