package merge_test

import (
	"fmt"
	"maps"
	"slices"
	"strconv"
	"strings"
	"testing"

	"marline/api"
	"marline/eval"
	"marline/ir"
	"marline/merge"
)

// random gives numbers: each row of them is always the same.
type random uint64

// below is a number below n.
func (r *random) below(n int) int {
	*r = *r*6364136223846793005 + 1442695040888963407
	return int(uint64(*r>>33) % uint64(n))
}

// sign is what a word of mod may begin with: how its name binds, and whether it is here.
type sign struct {
	letter byte
	bind   int
	here   bool
}

// signs are all of them.
var signs = []sign{
	{'+', api.BStrong, true}, {'-', api.BStrong, false},
	{'~', api.BWeak, true}, {'?', api.BWeak, false},
	{'=', api.BLocal, true},
}

// signOf is the letter of one, or ! if there is none.
func signOf(bind int, here bool) string {
	for _, s := range signs {
		if s.bind == bind && s.here == here {
			return string(s.letter)
		}
	}
	return "!"
}

// mod is a module by a text of words: a sign, and then name* and #Init of a global; of a function its name, /Params, # and what it gives back, and behind a colon what it does ahead of that: f/2 calls f with two values, x* loads x, x= stores.
func mod(text string) api.Module {
	var m api.Module
	for _, word := range strings.Fields(text) {
		how := signs[slices.IndexFunc(signs, func(s sign) bool { return s.letter == word[0] })]
		word, refs, _ := strings.Cut(word[1:], ":")
		word, number, _ := strings.Cut(word, "#")
		k, _ := strconv.ParseUint(number, 10, 64)
		if name, is := strings.CutSuffix(word, "*"); is {
			m.Globs = append(m.Globs, api.Glob{Name: name, Bind: how.bind, Here: how.here, Init: k})
			continue
		}
		name, params, _ := strings.Cut(word, "/")
		f := api.Func{Name: name, Bind: how.bind}
		f.Params, _ = strconv.Atoi(params)
		if how.here {
			f.Blocks = body(f.Params, k, refs)
		}
		m.Funcs = append(m.Funcs, f)
	}
	return m
}

// body are the blocks of a function that does what refs tell, and gives back k.
func body(params int, k uint64, refs string) []api.Block {
	b := api.Block{Params: params, Ins: []api.Inst{{Op: api.IConst, K: k}}, End: api.Term{Kind: api.TRet, A: params}}
	for _, ref := range strings.FieldsFunc(refs, func(r rune) bool { return r == ',' }) {
		name := strings.TrimRight(ref, "*=")
		switch {
		case strings.HasSuffix(ref, "*"):
			b.Ins = append(b.Ins, api.Inst{Op: api.ILoad, Name: name})
		case strings.HasSuffix(ref, "="):
			b.Ins = append(b.Ins, api.Inst{Op: api.IStore, A: params, Name: name})
		default:
			name, many, _ := strings.Cut(ref, "/")
			n, _ := strconv.Atoi(many)
			b.Ins = append(b.Ins, api.Inst{Op: api.ICall, Name: name, Args: slices.Repeat([]int{params}, n)})
		}
	}
	return []api.Block{b}
}

// mods are some, that stand in one text with a bar between.
func mods(text string) []api.Module {
	var l []api.Module
	for _, t := range strings.Split(text, "|") {
		l = append(l, mod(t))
	}
	return l
}

// number is a count as it stands in a word, if it isn't 0.
func number(mark string, n uint64) string {
	if n == 0 {
		return ""
	}
	return mark + strconv.FormatUint(n, 10)
}

// funcWord is a function as mod reads it, or all that it is, if that is more.
func funcWord(f api.Func) string {
	out := signOf(f.Bind, len(f.Blocks) > 0) + f.Name + number("/", uint64(f.Params))
	if len(f.Blocks) > 0 && len(f.Blocks[0].Ins) > 0 {
		out += number("#", f.Blocks[0].Ins[0].K)
		mark := ":"
		for _, i := range f.Blocks[0].Ins[1:] {
			out += mark + i.Name + map[int]string{api.ILoad: "*", api.IStore: "=", api.ICall: number("/", uint64(len(i.Args)))}[i.Op]
			mark = ","
		}
	}
	if out[0] == '!' || !ir.Same(mod(out), api.Module{Funcs: []api.Func{f}}) {
		return fmt.Sprintf("!%+v", f)
	}
	return out
}

// words are a module as mod reads it, functions ahead of globals.
func words(m api.Module) string {
	var out []string
	for _, f := range m.Funcs {
		out = append(out, funcWord(f))
	}
	for _, g := range m.Globs {
		out = append(out, signOf(g.Bind, g.Here)+g.Name+"*"+number("#", g.Init))
	}
	return strings.Join(out, " ")
}

// told is all that stands in something, as a text; it's of no account whether a list without elements is nil.
func told(x any) string {
	return fmt.Sprintf("%+v", x)
}

// scribble writes x all over a list's memory, to its capacity.
func scribble[T any](l []T, x T) {
	l = l[:cap(l)]
	for at := range l {
		l[at] = x
	}
}

// scribbleFunc writes all over a function's memory.
func scribbleFunc(f api.Func) {
	for _, b := range f.Blocks {
		for _, i := range b.Ins {
			scribble(i.Args, -9)
		}
		scribble(b.Ins, api.Inst{Op: -9, Name: "scribbled"})
		scribble(b.End.Args, -9)
		scribble(b.End.Elses, -9)
	}
	scribble(f.Blocks, api.Block{Params: -9})
}

// scribbleModule writes all over a module's memory.
func scribbleModule(m api.Module) {
	for _, f := range m.Funcs {
		scribbleFunc(f)
	}
	scribble(m.Funcs, api.Func{Name: "scribbled"})
	scribble(m.Globs, api.Glob{Name: "scribbled"})
}

// expectNames: Names answers these, in memory of its own, and leaves what it was handed as it was.
func expectNames(t *testing.T, why string, l []api.Module, want []map[string]string) {
	t.Helper()
	before := told(l)
	for range 2 { // the second one shows what the first one kept
		got := merge.Names(l)
		if !slices.EqualFunc(got, want, maps.Equal[map[string]string]) {
			t.Errorf("%.500s: Names answers %.500q, not %.500q: %.500s", why, got, want, before)
		}
		for _, m := range got {
			if m != nil {
				m["scribbled"] = "scribbled"
			}
		}
		scribble(got, nil)
	}
	if told(l) != before {
		t.Errorf("%.500s: Names wrote into what it was handed", why)
	}
}

// expectAll: All answers this error, and else this module, in memory of its own, and leaves what it was handed as it was.
func expectAll(t *testing.T, why string, l []api.Module, keep []string, want api.Module, e api.Errno) {
	t.Helper()
	before, kept := told(l), slices.Clone(keep)
	for range 2 {
		got, is := merge.All(l, keep)
		if is != e || !ir.Same(got, want) {
			t.Errorf("%.500s, keep %.200q: All answers %d and\n%.700s, not %d and\n%.700s", why, keep, is, words(got), e, words(want))
		}
		scribbleModule(got)
	}
	if told(l) != before || !slices.Equal(keep, kept) {
		t.Errorf("%.500s, keep %.200q: All wrote into what it was handed", why, keep)
	}
}

// right are modules by their text, each of which is right.
func right(t *testing.T, text string) []api.Module {
	t.Helper()
	l := mods(text)
	for at, m := range l {
		if e := ir.Check(m); e != api.OK {
			t.Errorf("%.500s: module %d of the test isn't right: %d", text, at, e)
		}
	}
	return l
}

// expectSound: a module is right and whole.
func expectSound(t *testing.T, why string, m api.Module) {
	t.Helper()
	if e, w := ir.Check(m), eval.Whole(m); e != api.OK || w != api.OK {
		t.Errorf("%.500s: what comes out isn't right and whole: %d, %d: %.700s", why, e, w, words(m))
	}
}

// expectMerged: of right modules by their text, and names that are kept (with a blank between), All answers this module, that is right and whole.
func expectMerged(t *testing.T, text, keep, want string) {
	t.Helper()
	expectAll(t, text, right(t, text), strings.Fields(keep), mod(want), api.OK)
	expectSound(t, text, mod(want))
}

// expectError: of right modules by their text All answers that error alone.
func expectError(t *testing.T, text, keep string, e api.Errno) {
	t.Helper()
	expectAll(t, text, right(t, text), strings.Fields(keep), api.Module{}, e)
}
