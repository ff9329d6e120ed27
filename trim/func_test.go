package trim_test

import (
	"testing"

	"marline/api"
	"marline/ir"
	"marline/sample"
	"marline/trim"
)

// TestFuncNothing: P13.2, functions of which nothing is left out.
func TestFuncNothing(t *testing.T) {
	for _, f := range []api.Func{
		{},
		{Name: "f", Bind: api.BStrong},
		{Name: "f", Bind: api.BWeak, Params: 6, Blocks: []api.Block{}},
		rightFunc(t, "/2; ret 1"),
		rightFunc(t, "jump 0"),
		rightFunc(t, "read; if 0: 1: 0", "const 7; ret 0"),
		rightFunc(t, "read; if 0: 3 0: 2 0 0", "read; ret 0", "/2; add 0 1; jump 3: 2", "/1; jump 1"),
	} {
		expectFunc(t, f, f)
	}
}

// TestFuncBlocks: P13.2, blocks that are left out between others and behind them; To and Else are the new numbers.
func TestFuncBlocks(t *testing.T) {
	for _, c := range [][2][]string{
		{{"read; ret 0", "read; ret 0"}, {"read; ret 0"}},
		{{"read; ret 0", "jump 0", "jump 1"}, {"read; ret 0"}},
		{{"jump 0", "jump 0"}, {"jump 0"}},
		{{"jump 2", "jump 0", "read; ret 0"}, {"jump 1", "read; ret 0"}},
		{{"jump 1", "read; ret 0", "jump 0"}, {"jump 1", "read; ret 0"}},
		{{"jump 1", "jump 3", "jump 0", "jump 0"}, {"jump 1", "jump 2", "jump 0"}},
		{{"jump 3", "jump 0", "jump 0", "jump 3"}, {"jump 1", "jump 1"}},
		{{"jump 3", "jump 0", "jump 4", "jump 5", "jump 4", "jump 3"}, {"jump 1", "jump 2", "jump 1"}},
		{{"read; if 0: 2: 4", "jump 3", "read; ret 0", "jump 1", "read; if 0: 4: 0"}, {"read; if 0: 1: 2", "read; ret 0", "read; if 0: 2: 0"}},
		{{"read; if 0: 4: 2", "jump 3", "read; ret 0", "jump 1", "read; if 0: 2: 4"}, {"read; if 0: 2: 1", "read; ret 0", "read; if 0: 1: 2"}},
		{{"read; if 0: 0: 2", "jump 2", "read; if 0: 2: 0"}, {"read; if 0: 0: 1", "read; if 0: 1: 0"}},
	} {
		expectFunc(t, rightFunc(t, c[0]...), rightFunc(t, c[1]...))
	}
}

// TestFuncBoth: P13.2, each of the blocks that stay is as Block; what only blocks use that are left out doesn't count, as blocks share no values.
func TestFuncBoth(t *testing.T) {
	f := rightFunc(t,
		"/1; load x; const 4; mul 0 2; jump 2: 3 2",
		"/1; load x; write 1; jump 2: 0 0",
		"/2; const 6; const 7; if 3: 4 1: 0 1",
		"const 8; jump 3",
		"/1; load x; load y; call f 2; store x 2; ret 3",
	)
	want := rightFunc(t,
		"/1; const 4; mul 0 1; jump 1: 2 1",
		"/2; const 7; if 2: 2 1: 0 1",
		"/1; load y; call f 1; store x 1; ret 2",
	)
	expectFunc(t, f, want)
	expectFunc(t, want, want)
}

// TestFuncFields: P13.2, all else of a function stays, however it binds, and so do the Params of its blocks, used or not.
func TestFuncFields(t *testing.T) {
	for bind := api.BLocal; bind <= api.BWeak; bind++ {
		f, want := rightFunc(t, "/6; load x; jump 2: 0 0", "read; ret 0", "/2; load x; jump 2: 1 0"), rightFunc(t, "/6; jump 1: 0 0", "/2; jump 1: 1 0")
		f.Name, f.Bind = "sixteen letters.", bind
		want.Name, want.Bind = "sixteen letters.", bind
		expectFunc(t, f, want)
	}
}

// TestFuncThree: P13.2, of all functions of three blocks, held against the chapter's words.
func TestFuncThree(t *testing.T) {
	for _, f := range allOfThree() {
		if !ir.Func(f) {
			t.Fatalf("the test's function isn't right: %+v", f)
		}
		expectFunc(t, f, funcOf(f))
	}
}

// TestFuncAny: P13.2, of functions of all sorts, likewise.
func TestFuncAny(t *testing.T) {
	for start := range 3000 {
		f := randomFrom(start).anyFunc()
		if !ir.Func(f) {
			t.Fatalf("row %d: the test's function isn't right: %+v", start, f)
		}
		expectFunc(t, f, funcOf(f))
	}
}

// TestFuncOwn: R3, whatever becomes of a function, what was made of it stays as it is.
func TestFuncOwn(t *testing.T) {
	for start := range 500 {
		f, want := randomFrom(start).anyFunc(), funcOf(randomFrom(start).anyFunc())
		out := trim.Func(f)
		sample.ScribbleFunc(f)
		if !ir.Same(module(out), module(want)) {
			t.Errorf("row %d: it was %.300s, and is %.300s", start, told(want), told(out))
		}
	}
}
