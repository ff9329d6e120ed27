package merge_test

import (
	"fmt"
	"maps"
	"slices"
	"strings"
	"testing"

	"marline/api"
	"marline/merge"
	"marline/sample"
)

// copiedFunc is a function that shares no memory with f.
func copiedFunc(f api.Func) api.Func {
	f.Blocks = slices.Clone(f.Blocks)
	for at := range f.Blocks {
		b := &f.Blocks[at]
		b.Ins = slices.Clone(b.Ins)
		for k := range b.Ins {
			b.Ins[k].Args = slices.Clone(b.Ins[k].Args)
		}
		b.End.Args = slices.Clone(b.End.Args)
		b.End.Elses = slices.Clone(b.End.Elses)
	}
	return f
}

// otherwise is a function with other names, by the chapter's words.
func otherwise(f api.Func, names map[string]string) api.Func {
	out := copiedFunc(f)
	change := func(name *string) {
		if other, is := names[*name]; is {
			*name = other
		}
	}
	change(&out.Name)
	for _, b := range out.Blocks {
		for at := range b.Ins {
			change(&b.Ins[at].Name)
		}
	}
	return out
}

// expectRename: Rename answers this, in memory of its own, and leaves what it was handed as it was.
func expectRename(t *testing.T, why string, f api.Func, names map[string]string, want api.Func) {
	t.Helper()
	before, named := told(f), maps.Clone(names)
	for range 2 {
		got := merge.Rename(f, names)
		if told(got) != told(want) {
			t.Errorf("%.300s: Rename answers\n%.700s, not\n%.700s: %.700s", why, told(got), told(want), before)
		}
		sample.ScribbleFunc(got)
	}
	if told(f) != before || !maps.Equal(names, named) {
		t.Errorf("%.300s: Rename wrote into what it was handed", why)
	}
}

// oneWord is the one function of a text.
func oneWord(text string) api.Func {
	return mod(text).Funcs[0]
}

// TestRename: P10.1, its own name and those of its instructions, each replaced once, and none but those that have another one.
func TestRename(t *testing.T) {
	for _, x := range []struct {
		text  string
		names string // old, new, and so on
		want  string
	}{
		{"+f", "f g", "+g"},
		{"+f", "g f", "+f"},
		{"+f", "", "+f"},
		{"=f", "f .0", "=.0"},
		{"-f/3", "f g", "-g/3"},
		{"?f/6", "f g", "?g/6"},
		{"~f/2#5", "f f", "~f/2#5"},
		{"+f:g", "g h", "+f:h"},
		{"+f:x*", "x y", "+f:y*"},
		{"+f:x=", "x y", "+f:y="},
		{"+f:g/6", "g h", "+f:h/6"},
		{"+f:f", "f g", "+g:g"},
		{"=f/1#3:f/1,f/1", "f .17", "=.17/1#3:.17/1,.17/1"},
		{"+f:g,g,x*,x=,g", "g h x y", "+f:h,h,y*,y=,h"},
		{"+f:g,h,k", "g G k K", "+f:G,h,K"},
		{"+f:g,h", "g h h g", "+f:h,g"}, // none is replaced twice
		{"+a:b,c,d", "a b b c c d", "+b:c,d,d"},
		{"+.1:.0,.2", ".0 .1 .1 .0", "+.0:.1,.2"},
		{"+f:F,ff,f/1,x*", "F one ff two", "+f:one,two,f/1,x*"},
		{"+f:g,x*", "f a g b x c y d", "+a:b,c*"},
		{"+f:g,g*,g=", "g h", "+f:h,h*,h="},
	} {
		names := map[string]string{}
		for l := strings.Fields(x.names); len(l) > 0; l = l[2:] {
			names[l[0]] = l[1]
		}
		f := oneWord(x.text)
		expectRename(t, x.text+", "+x.names, f, names, oneWord(x.want))
		expectRename(t, x.text+" of no names", f, nil, f)
	}
}

// TestRenameOps: P10.1, of each Op, and of what is none, in each block: a name is replaced, all else stays.
func TestRenameOps(t *testing.T) {
	names := map[string]string{"old": "new", "f": "g", "end": "other end"}
	for op := -1; op <= 18; op++ {
		i := api.Inst{Op: op, A: 3, B: 4, K: 5, Name: "old", Args: []int{6, 7, 8}}
		other := i
		other.Name = "left"
		end := api.Term{Kind: 2, A: 1, To: 2, Args: []int{3, 4}, Else: 5, Elses: []int{6}}
		f := api.Func{Name: "f", Bind: 9, Params: 17, Blocks: []api.Block{
			{Params: 2, Ins: []api.Inst{i, other, i}, End: end},
			{Params: 77, Ins: []api.Inst{other, i}, End: api.Term{Kind: api.TJump, Args: []int{9, 9}}},
			{},
		}}
		want := otherwise(f, nil)
		want.Name = "g"
		want.Blocks[0].Ins[0].Name, want.Blocks[0].Ins[2].Name, want.Blocks[1].Ins[1].Name = "new", "new", "new"
		expectRename(t, fmt.Sprint("Op ", op), f, names, want)
		if told(otherwise(f, names)) != told(want) {
			t.Errorf("Op %d: the test's own words differ", op)
		}
	}
}

// TestRenameBytes: P10.1, names are rows of any bytes, also of none.
func TestRenameBytes(t *testing.T) {
	l := []string{"", "a", "A", "a\x00", "\x00", " a", "a ", "ä", "a\u0308", "\xff", "\xfe", "sixteen bytes 16", strings.Repeat("long", 5000)}
	f := api.Func{Name: "f", Blocks: make([]api.Block, 3)}
	for at, name := range l {
		b := &f.Blocks[at%3]
		b.Ins = append(b.Ins, api.Inst{Op: at, Name: name, Args: []int{at}})
	}
	for at, name := range l {
		names := map[string]string{name: l[len(l)-1-at]}
		expectRename(t, fmt.Sprintf("%.20q alone", name), f, names, otherwise(f, names))
		f.Name = name
		names[name] = ""
		expectRename(t, fmt.Sprintf("%.20q to nothing", name), f, names, otherwise(f, names))
	}
}

// TestRenameNothing: P10.1 and R1, functions without blocks, or without anything.
func TestRenameNothing(t *testing.T) {
	expectRename(t, "nothing", api.Func{}, nil, api.Func{})
	expectRename(t, "nothing, and a name", api.Func{}, map[string]string{"f": "g"}, api.Func{})
	expectRename(t, "no name, and a name for it", api.Func{}, map[string]string{"": "g"}, api.Func{Name: "g"})
	expectRename(t, "no blocks", api.Func{Name: "f", Params: -1, Blocks: []api.Block{}}, map[string]string{"f": "g"}, api.Func{Name: "g", Params: -1})
}

// TestRenameRandom: P10.1, random functions, held against the chapter's words.
func TestRenameRandom(t *testing.T) {
	changed := 0
	for start := range 3000 {
		r := randomFrom(start)
		m := r.Whole()
		names := map[string]string{}
		for range r.Below(5) {
			names[r.OneOf("main", "f0", "f1", "g0", "g1", "", "away")] = r.OneOf("main", "f0", "g0", ".0", "x")
		}
		for _, f := range m.Funcs {
			want := otherwise(f, names)
			if told(want) != told(f) {
				changed++
			}
			expectRename(t, fmt.Sprint("row ", start), f, names, want)
		}
	}
	if changed < 2000 {
		t.Errorf("%d functions are changed", changed)
	}
}
