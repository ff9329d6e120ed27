package fold_test

import (
	"testing"

	"marline/api"
	"marline/fold"
	"marline/ir"
	"marline/sample"
)

// many are blocks of all sorts, as texts, and what Block makes of them.
var many = [][2]string{
	{"const 2; const 3; mul 0 1; ret 2", "const 2; const 3; const 6; ret 2"},
	{"/1; const 0; if 1: 2 0: 0", "/1; const 0; jump 0"},
	{"/1; read; add 0 1; ret 2", "/1; read; add 0 1; ret 2"},
	{"const 1; const 0; call f 0; eq 0 1; if 3: 1 2: 0 0", "const 1; const 0; call f 0; const 0; jump 0: 0"},
}

// texts are those of many: as they are, or as Block makes them.
func texts(side int) []string {
	var l []string
	for _, row := range many {
		l = append(l, row[side])
	}
	return l
}

// TestFunc: P12.1, each block of a function, and nothing else.
func TestFunc(t *testing.T) {
	for _, f := range []api.Func{
		{},
		{Name: "f", Bind: api.BStrong},
		{Name: "f", Bind: api.BWeak, Params: 6},
		{Name: "a name of more than sixteen bytes", Bind: -4, Params: -5, Blocks: []api.Block{}},
	} {
		expectFunc(t, f, f)
	}
	for from := range many {
		for to := from; to <= len(many); to++ {
			f, want := function("f", texts(0)[from:to]...), function("f", texts(1)[from:to]...)
			expectFunc(t, f, want)
			f.Name, f.Bind, f.Params = "other", 7, -9
			want.Name, want.Bind, want.Params = "other", 7, -9
			expectFunc(t, f, want)
		}
	}
}

// TestModule: P12.1, each function likewise, also those that two have the name of; what isn't here, and globals, stay as they are.
func TestModule(t *testing.T) {
	of := func(side int) api.Module {
		away := api.Func{Name: "away", Bind: api.BWeak, Params: 3}
		local := function("twice", texts(side)[1:2]...)
		local.Bind, local.Params = api.BLocal, 4
		return api.Module{
			Funcs: []api.Func{function("main", texts(side)...), away, local, function("twice", texts(side)[3:]...), {}, function("", texts(side)[:2]...)},
			Globs: []api.Glob{{Name: "x", Bind: api.BStrong, Here: true, Init: 9}, {Name: "y", Bind: api.BWeak}, {Name: "x", Bind: 7, Init: 1<<64 - 1}, {}},
		}
	}
	expectModule(t, of(0), of(1))
	expectModule(t, of(1), of(1))
	expectModule(t, api.Module{}, api.Module{})
	expectModule(t, api.Module{Funcs: []api.Func{}, Globs: []api.Glob{}}, api.Module{})
	expectModule(t, api.Module{Funcs: make([]api.Func, 40), Globs: make([]api.Glob, 40)}, api.Module{Funcs: make([]api.Func, 40), Globs: make([]api.Glob, 40)})
	expectModule(t, api.Module{Globs: of(0).Globs}, api.Module{Globs: of(0).Globs})
}

// TestModuleGlobals: P12.1, what a global is at first isn't known.
func TestModuleGlobals(t *testing.T) {
	m := module(function("main", "load x; add 0 0; if 1: 0: 0"))
	m.Globs = []api.Glob{{Name: "x", Bind: api.BLocal, Here: true, Init: 3}}
	expectModule(t, m, m)
}

// TestModuleApart: P12.1, what is known in one block isn't in another one, and nothing of what a function is handed or gives back.
func TestModuleApart(t *testing.T) {
	m := module(
		function("main", "const 4; call f 0; add 1 0; jump 1: 0", "/1; add 0 0; if 1: 2: 0", "add 0 0; ret 0"),
		function("f", "/1; const 3; ret 1"),
	)
	expectModule(t, m, m)
}

// someModule is a module of blocks of all sorts.
func (r *random) someModule() api.Module {
	var m api.Module
	for range r.Below(5) {
		f := api.Func{Name: r.OneOf("f", "g", "main"), Bind: r.Below(5), Params: r.Below(3)}
		for range r.Below(4) {
			f.Blocks = append(f.Blocks, r.someBlock())
		}
		m.Funcs = append(m.Funcs, f)
	}
	for range r.Below(3) {
		m.Globs = append(m.Globs, api.Glob{Name: r.OneOf("x", "y"), Bind: r.Below(5), Here: r.Below(2) == 0, Init: uint64(r.Below(100))})
	}
	return m
}

// TestModuleAny: P12.1, of modules of all sorts, held against the chapter's words; their memory is their own.
func TestModuleAny(t *testing.T) {
	for start := range 4000 {
		r := randomFrom(start)
		m := r.someModule()
		want := api.Module{Globs: m.Globs}
		for _, f := range m.Funcs {
			var l []api.Block
			for _, b := range f.Blocks {
				l = append(l, folded(b))
			}
			f.Blocks = l
			want.Funcs = append(want.Funcs, f)
		}
		expectModule(t, m, want)
		before, out := told(want), fold.Module(m)
		sample.ScribbleModule(m)
		if got := told(out); got != before {
			t.Errorf("row %d: it was %.300s, and is %.300s", start, before, got)
		}
		if again := fold.Module(out); !ir.Same(again, out) {
			t.Errorf("row %d: a second time %.300s is %.300s", start, told(out), told(again))
		}
	}
}
