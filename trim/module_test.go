package trim_test

import (
	"fmt"
	"math"
	"testing"

	"marline/api"
	"marline/ir"
	"marline/sample"
	"marline/trim"
)

// long and short are a function's blocks, as texts: all of them, and those that stay, as they are then.
var (
	long  = []string{"/1; const 3; const 4; add 0 2; jump 2: 3", "load x; ret 0", "/1; load x; write 0; ret 0"}
	short = []string{"/1; const 4; add 0 1; jump 1: 2", "/1; write 0; ret 0"}
)

// named is a strong function of these blocks.
func named(t *testing.T, name string, texts ...string) api.Func {
	t.Helper()
	f := rightFunc(t, texts...)
	f.Name = name
	return f
}

// TestModule: P13.2, each function's Func; one that isn't here, and globals, stay as they are.
func TestModule(t *testing.T) {
	of := func(texts ...string) api.Module {
		local := named(t, "local", texts...)
		local.Bind = api.BLocal
		return api.Module{
			Funcs: []api.Func{named(t, "main", "const 1; ret 0"), {Name: "away", Bind: api.BWeak, Params: 3}, named(t, "f", texts...), {Name: "far", Bind: api.BStrong}, local},
			Globs: []api.Glob{{Name: "x", Bind: api.BStrong, Here: true, Init: 9}, {Name: "y", Bind: api.BWeak}, {Name: "z", Bind: api.BLocal, Here: true}},
		}
	}
	expectModule(t, of(long...), of(short...))
	expectModule(t, of(short...), of(short...))
	expectModule(t, api.Module{}, api.Module{})
	expectModule(t, api.Module{Funcs: []api.Func{}, Globs: []api.Glob{}}, api.Module{})
	expectModule(t, api.Module{Globs: of(long...).Globs}, api.Module{Globs: of(long...).Globs})
}

// TestModuleNames: P13.2, no function and no global is left out, though nobody names it; what isn't used of a module is another chapter's.
func TestModuleNames(t *testing.T) {
	m := sample.Mod("+main =alone/2 ~weak =x* +y*#3 ?z*")
	for at := range m.Funcs {
		b := &m.Funcs[at].Blocks[0]
		b.Ins = append(b.Ins, api.Inst{Op: api.ILoad, Name: "x"})
	}
	want := sample.Mod("+main =alone/2 ~weak =x* +y*#3 ?z*")
	expectModule(t, m, want)
}

// TestModuleWrong: P13.2, a function that isn't right stays as it is, and the others don't.
func TestModuleWrong(t *testing.T) {
	for why, spoil := range map[string]func(f *api.Func){
		"no Name":           func(f *api.Func) { f.Name = "" },
		"a long Name":       func(f *api.Func) { f.Name = "seventeen letters" },
		"Bind 0":            func(f *api.Func) { f.Bind = 0 },
		"Bind 4":            func(f *api.Func) { f.Bind = 4 },
		"Params":            func(f *api.Func) { f.Params = 2 },
		"Params below 0":    func(f *api.Func) { f.Params, f.Blocks[0].Params = -1, -1 },
		"Params of 7":       func(f *api.Func) { f.Params, f.Blocks[0].Params = 7, 7 },
		"a block's Params":  func(f *api.Func) { f.Blocks[1].Params = 7 },
		"17 blocks":         func(f *api.Func) { f.Blocks = append(f.Blocks, make([]api.Block, 14)...) },
		"33 instructions":   func(f *api.Func) { f.Blocks[1].Ins = make33() },
		"an Op":             func(f *api.Func) { f.Blocks[1].Ins[0].Op = 17 },
		"an Op of 0":        func(f *api.Func) { f.Blocks[0].Ins[0].Op = 0 },
		"a value":           func(f *api.Func) { f.Blocks[0].Ins[2].A = 3 },
		"a value below 0":   func(f *api.Func) { f.Blocks[0].Ins[2].B = -1 },
		"an A of IConst":    func(f *api.Func) { f.Blocks[0].Ins[0].A = 1 },
		"Args of IConst":    func(f *api.Func) { f.Blocks[0].Ins[0].Args = []int{0} },
		"no name":           func(f *api.Func) { f.Blocks[1].Ins[0].Name = "" },
		"a TJump's A":       func(f *api.Func) { f.Blocks[0].End.A = 1 },
		"a TJump's Else":    func(f *api.Func) { f.Blocks[0].End.Else = 1 },
		"a TJump's Elses":   func(f *api.Func) { f.Blocks[0].End.Elses = []int{0} },
		"a TJump's Args":    func(f *api.Func) { f.Blocks[0].End.Args = []int{3, 3} },
		"a TJump to none":   func(f *api.Func) { f.Blocks[0].End.To = 3 },
		"a TJump below 0":   func(f *api.Func) { f.Blocks[0].End.To = -1 },
		"a TRet's A":        func(f *api.Func) { f.Blocks[1].End.A = 1 },
		"a TRet's To":       func(f *api.Func) { f.Blocks[2].End.To = 2 },
		"a TRet's Args":     func(f *api.Func) { f.Blocks[2].End.Args = []int{0} },
		"an end of no kind": func(f *api.Func) { f.Blocks[1].End.Kind = 0 },
		"an end of kind 4":  func(f *api.Func) { f.Blocks[1].End.Kind = 4 },
		"no blocks, local":  func(f *api.Func) { f.Blocks, f.Bind = nil, api.BLocal },
	} {
		for at := range 3 {
			of := func(texts ...string) api.Module {
				m := module(named(t, "main", "const 2; ret 0"), named(t, "g", texts...), named(t, "h", texts...))
				m.Globs = []api.Glob{{Name: "x", Bind: api.BLocal, Here: true}}
				m.Funcs[at] = named(t, "wrong", long...)
				spoil(&m.Funcs[at])
				return m
			}
			if m := of(long...); ir.Func(m.Funcs[at]) {
				t.Errorf("%s: the test's function is right", why)
			}
			t.Run(fmt.Sprint(why, " ", at), func(t *testing.T) { expectModule(t, of(long...), of(short...)) })
		}
	}
}

// make33 are as many instructions as may be, and one more.
func make33() []api.Inst {
	l := make([]api.Inst, 33)
	for at := range l {
		l[at] = api.Inst{Op: api.ILoad, Name: "x"}
	}
	return l
}

// TestModuleNotRight: P13.2, a module that isn't right, though its functions are: each is Func all the same.
func TestModuleNotRight(t *testing.T) {
	of := func(texts ...string) api.Func { return named(t, "f", texts...) }
	globs := []api.Glob{{Name: "f", Bind: 9, Init: 1<<64 - 1}, {}, {Name: "x"}, {Name: "x", Here: true}}
	for why, m := range map[string][2]api.Module{
		"two of one name":       {module(of(long...), of(long...)), module(of(short...), of(short...))},
		"globals not right":     {api.Module{Funcs: []api.Func{of(long...)}, Globs: globs}, api.Module{Funcs: []api.Func{of(short...)}, Globs: globs}},
		"names that nobody has": {module(of("load x; call nobody 0; const 5; ret 1")), module(of("load x; call nobody 0; ret 1"))},
		"a call of other Args":  {module(of("/1; load x; call f; ret 2")), module(of("/1; call f; ret 1"))},
		"no main":               {module(of("load x; const 5; ret 1")), module(of("const 5; ret 0"))},
	} {
		t.Run(why, func(t *testing.T) { expectModule(t, m[0], m[1]) })
	}
	var many, want api.Module
	for range 40 {
		many.Funcs, want.Funcs = append(many.Funcs, of(long...)), append(want.Funcs, of(short...))
	}
	expectModule(t, many, want)
}

// someModule is a module of functions of all sorts, of which some aren't right.
func (r *random) someModule() api.Module {
	var m api.Module
	for range r.Below(6) {
		f := r.anyFunc()
		switch at := r.Below(len(f.Blocks)); r.Below(6) {
		case 0:
			f.Name = ""
		case 1:
			f.Blocks[at].End.A += []int{1, 40, -40, math.MinInt, math.MaxInt - 40}[r.Below(5)]
		case 2:
			f.Blocks[at].End.To -= 1
		}
		m.Funcs = append(m.Funcs, f)
	}
	for range r.Below(3) {
		m.Globs = append(m.Globs, api.Glob{Name: r.OneOf("x", "y"), Bind: r.Below(5), Here: r.Below(2) == 0, Init: uint64(r.Below(100))})
	}
	return m
}

// TestModuleAny: P13.2, of modules of all sorts, held against the chapter's words; their memory is their own.
func TestModuleAny(t *testing.T) {
	wrong := 0
	for start := range 2000 {
		m := randomFrom(start).someModule()
		want := api.Module{Globs: m.Globs}
		for _, f := range m.Funcs {
			if ir.Func(f) {
				f = funcOf(f)
			} else {
				wrong++
			}
			want.Funcs = append(want.Funcs, f)
		}
		expectModule(t, m, want)
		before, out := told(want), trim.Module(m)
		sample.ScribbleModule(m)
		if got := told(out); got != before {
			t.Errorf("row %d: it was %.300s, and is %.300s", start, before, got)
		}
	}
	if wrong < 1000 {
		t.Errorf("only %d functions aren't right", wrong)
	}
}

// far is a number, or one that is far from all that stands in a block.
func (r *random) far() int {
	return []int{math.MinInt, math.MaxInt, -1, 1 << 32, r.Below(40), r.Below(40), r.Below(40), r.Below(40)}[r.Below(8)]
}

// TestWrongEnds: R1 speaks of what is right alone; but of functions of all sorts each call ends, and leaves them as they were.
func TestWrongEnds(t *testing.T) {
	for start := range 5000 {
		r := randomFrom(start)
		f := r.anyFunc()
		for at := range f.Blocks {
			b := &f.Blocks[at]
			b.Params = r.Below(12) - 4
			for k := range b.Ins {
				b.Ins[k].Op, b.Ins[k].A, b.Ins[k].B, b.Ins[k].Args = r.Below(20)-1, r.far(), r.far(), []int{r.far()}
			}
			b.End = api.Term{Kind: r.Below(5), A: r.far(), To: r.far(), Args: []int{r.far()}, Else: r.far(), Elses: []int{r.far(), r.far()}}
		}
		before := told(f)
		for _, b := range f.Blocks {
			trim.Used(b)
			sample.ScribbleBlock(trim.Block(b))
		}
		trim.Reached(f)
		sample.ScribbleFunc(trim.Func(f))
		if told(f) != before {
			t.Errorf("row %d: %.500s was written into", start, before)
		}
	}
}
