package pick_test

import (
	"fmt"
	"slices"
	"strings"
	"testing"

	"marline/api"
	"marline/pick"
)

// random gives numbers: each row of them is always the same.
type random uint64

// below is a number below n.
func (r *random) below(n int) int {
	*r = *r*6364136223846793005 + 1442695040888963407
	return int(uint64(*r>>33) % uint64(n))
}

// line is a function of one block that is handed nothing, and gives back its last value.
func line(name string, bind int, ins ...api.Inst) api.Func {
	return api.Func{Name: name, Bind: bind, Blocks: []api.Block{
		{Ins: ins, End: api.Term{Kind: api.TRet, A: len(ins) - 1}},
	}}
}

// seven is a function that gives back 7.
func seven(name string, bind int) api.Func {
	return line(name, bind, api.Inst{Op: api.IConst, K: 7})
}

// signs are what a name may have ahead of it in mod: whether it is here, and how it binds.
const signs = "+~=-?"

// mod is a module by a text of names, each behind a sign: + defined, ~ defined weakly, = defined for itself alone, - wanted, ? wanted weakly. A name of a great letter is a global's.
func mod(text string) api.Module {
	var m api.Module
	for _, word := range strings.Fields(text) {
		sign, name := strings.IndexByte(signs, word[0]), word[1:]
		bind := [...]int{api.BStrong, api.BWeak, api.BLocal, api.BStrong, api.BWeak}[sign]
		if strings.ToUpper(name[:1]) == name[:1] {
			m.Globs = append(m.Globs, api.Glob{Name: name, Bind: bind, Here: sign < 3})
			continue
		}
		f := seven(name, bind)
		if sign >= 3 {
			f.Blocks = nil
		}
		m.Funcs = append(m.Funcs, f)
	}
	return m
}

// object is a file of one module.
func object(text string) api.File {
	return api.File{Mods: []api.Module{mod(text)}}
}

// archive is one of some.
func archive(texts ...string) api.File {
	f := api.File{Archive: true}
	for _, text := range texts {
		f.Mods = append(f.Mods, mod(text))
	}
	return f
}

// place is where a module stands: in which file, and which one it is there.
type place struct {
	file, mod int
}

// markName is that of a global that each marked module has for itself: its Init tells where the module stood.
const markName = "?mark?"

// marked are these files, with a mark in each module.
func marked(l ...api.File) []api.File {
	l = copied(l)
	for file, f := range l {
		for at := range f.Mods {
			g := api.Glob{Name: markName, Bind: api.BLocal, Here: true, Init: uint64(file*100 + at)}
			f.Mods[at].Globs = append(f.Mods[at].Globs, g)
		}
	}
	return l
}

// placeOf is where a marked module stood.
func placeOf(m api.Module) place {
	for _, g := range m.Globs {
		if g.Name == markName {
			return place{int(g.Init / 100), int(g.Init % 100)}
		}
	}
	return place{-1, -1}
}

// placesOf are those of some.
func placesOf(l []api.Module) []place {
	var out []place
	for _, m := range l {
		out = append(out, placeOf(m))
	}
	return out
}

// copied are files that share no memory with l.
func copied(l []api.File) []api.File {
	l = slices.Clone(l)
	for at := range l {
		l[at].Mods = slices.Clone(l[at].Mods)
		for k, m := range l[at].Mods {
			l[at].Mods[k] = copiedMod(m)
		}
	}
	return l
}

// copiedMod is a module that shares no memory with m.
func copiedMod(m api.Module) api.Module {
	k := api.Module{Funcs: slices.Clone(m.Funcs), Globs: slices.Clone(m.Globs)}
	for at := range k.Funcs {
		f := &k.Funcs[at]
		f.Blocks = slices.Clone(f.Blocks)
		for at := range f.Blocks {
			b := &f.Blocks[at]
			b.Ins = slices.Clone(b.Ins)
			for at := range b.Ins {
				b.Ins[at].Args = slices.Clone(b.Ins[at].Args)
			}
			b.End.Args, b.End.Elses = slices.Clone(b.End.Args), slices.Clone(b.End.Elses)
		}
	}
	return k
}

// scribble writes into all that a row of modules has.
func scribble(l []api.Module) {
	over := func(l []int) {
		for at := range l {
			l[at] = 99
		}
	}
	for at, m := range l {
		for k, f := range m.Funcs {
			for k, b := range f.Blocks {
				for k, i := range b.Ins {
					over(i.Args)
					b.Ins[k] = api.Inst{Op: 99}
				}
				over(b.End.Args)
				over(b.End.Elses)
				f.Blocks[k] = api.Block{Params: 99}
			}
			m.Funcs[k] = api.Func{Name: "scribbled"}
		}
		for k := range m.Globs {
			m.Globs[k] = api.Glob{Name: "scribbled"}
		}
		l[at] = api.Module{}
	}
}

// told is all that stands in something, as a text; it's of no account whether a list without elements is nil.
func told(x any) string {
	return fmt.Sprintf("%+q", fmt.Sprintf("%+v", x))
}

// expectNames: Defines and Wants answer these, and leave what they were handed as it was.
func expectNames(t *testing.T, why string, m api.Module, defines, wants []string) {
	t.Helper()
	before := told(m)
	for range 2 { // the second one shows what the first one kept
		d, w := pick.Defines(m), pick.Wants(m)
		if !slices.Equal(d, defines) {
			t.Errorf("%s: Defines answers %q, not %q: %.500s", why, d, defines, before)
		}
		if !slices.Equal(w, wants) {
			t.Errorf("%s: Wants answers %q, not %q: %.500s", why, w, wants, before)
		}
		for _, l := range [][]string{d, w} {
			l = l[:cap(l)]
			for at := range l {
				l[at] = "scribbled"
			}
		}
	}
	if told(m) != before {
		t.Errorf("%s: Defines or Wants wrote into what it was handed", why)
	}
}

// expectCheck: Check answers that, leaves what it was handed as it was, and Take refuses likewise.
func expectCheck(t *testing.T, why string, l []api.File, want api.Errno) {
	t.Helper()
	before := told(l)
	for range 2 {
		if e := pick.Check(l); e != want {
			t.Errorf("%s: Check answers %d, not %d: %.500s", why, e, want, before)
		}
		out, e := pick.Take(l)
		if e != want {
			t.Errorf("%s: Take answers %d, not %d: %.500s", why, e, want, before)
		}
		if e != api.OK && len(out) > 0 {
			t.Errorf("%s: Take answers %d, and %d modules beside it", why, e, len(out))
		}
	}
	if told(l) != before {
		t.Errorf("%s: Check or Take wrote into what it was handed", why)
	}
}

// expectTake: of marked files Take answers the modules of these places, as they were, in memory of their own, and leaves what it was handed as it was.
func expectTake(t *testing.T, why string, l []api.File, want ...place) {
	t.Helper()
	before := told(l)
	for range 2 {
		out, e := pick.Take(l)
		got := placesOf(out)
		if e != api.OK || !slices.Equal(got, want) {
			t.Errorf("%s: Take answers %v, %d, not %v: %.1000s", why, got, e, want, before)
			return
		}
		for at, p := range want {
			if told(out[at]) != told(l[p.file].Mods[p.mod]) {
				t.Errorf("%s: module %v became another one: %.500s", why, p, told(out[at]))
			}
		}
		scribble(out)
	}
	if told(l) != before {
		t.Errorf("%s: Take wrote into what it was handed, or answered some of its memory", why)
	}
}
