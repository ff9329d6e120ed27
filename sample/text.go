// Package sample has modules for the tests of all layers: such that a text tells, and random ones, which are always the same. No layer calls it.
package sample

import (
	"slices"
	"strconv"
	"strings"

	"marline/api"
	"marline/ir"
)

// sign is what a word may begin with: how its name binds, and whether it is here.
type sign struct {
	letter byte
	bind   int
	here   bool
}

// signs are all of them.
var signs = [...]sign{
	{'+', api.BStrong, true},
	{'-', api.BStrong, false},
	{'~', api.BWeak, true},
	{'?', api.BWeak, false},
	{'=', api.BLocal, true},
}

// Mod is a module by a text of words. A word begins with a sign: + strong, ~ weak, = local, and, of what isn't here, - strong, ? weak. Then stand, of a global, its name, * and #Init; of a function its name, /Params, # and what it gives back, and behind a colon what it does ahead of that, with commas between: f/2 calls f with two values, x* loads x, x= stores it. A semicolon begins another block of such.
func Mod(text string) api.Module {
	var m api.Module
	for _, word := range strings.Fields(text) {
		how := signOf(word[0])
		item, refs, _ := strings.Cut(word[1:], ":")
		item, number, _ := strings.Cut(item, "#")
		k, _ := strconv.ParseUint(number, 10, 64)
		if name, is := strings.CutSuffix(item, "*"); is {
			m.Globs = append(m.Globs, api.Glob{Name: name, Bind: how.bind, Here: how.here, Init: k})
			continue
		}
		f := api.Func{Bind: how.bind}
		f.Name, f.Params = counted(item)
		if how.here {
			f.Blocks = blocks(f.Params, k, refs)
		}
		m.Funcs = append(m.Funcs, f)
	}
	return m
}

// signOf is the sign of a letter; that of another one binds in no way.
func signOf(letter byte) sign {
	for _, s := range signs {
		if s.letter == letter {
			return s
		}
	}
	return sign{}
}

// Mods are some modules by one text, with a bar between.
func Mods(text string) []api.Module {
	var l []api.Module
	for t := range strings.SplitSeq(text, "|") {
		l = append(l, Mod(t))
	}
	return l
}

// counted is a name, and the count behind it.
func counted(s string) (string, int) {
	name, digits, _ := strings.Cut(s, "/")
	n, _ := strconv.Atoi(digits)
	return name, n
}

// blocks are those of a function that does what refs tell; the first one is handed so many values, and gives back k, the others 0.
func blocks(params int, k uint64, refs string) []api.Block {
	var l []api.Block
	for part := range strings.SplitSeq(refs, ";") {
		b := api.Block{Params: params, Ins: []api.Inst{{Op: api.IConst, K: k}}, End: api.Term{Kind: api.TRet, A: params}}
		for _, ref := range strings.FieldsFunc(part, func(r rune) bool { return r == ',' }) {
			b.Ins = append(b.Ins, named(ref, params))
		}
		l = append(l, b)
		params, k = 0, 0
	}
	return l
}

// named is an instruction by its text; the value that it uses is always the same.
func named(ref string, value int) api.Inst {
	if name, is := strings.CutSuffix(ref, "*"); is {
		return api.Inst{Op: api.ILoad, Name: name}
	}
	if name, is := strings.CutSuffix(ref, "="); is {
		return api.Inst{Op: api.IStore, A: value, Name: name}
	}
	name, n := counted(ref)
	return api.Inst{Op: api.ICall, Name: name, Args: slices.Repeat([]int{value}, n)}
}

// Words are a module as a text for Mod, functions ahead of globals; an item of which there is no such text begins with an exclamation mark.
func Words(m api.Module) string {
	var out []string
	for _, f := range m.Funcs {
		word := letter(f.Bind, len(f.Blocks) > 0) + f.Name + number("/", uint64(f.Params)) + told(f.Blocks)
		if word[0] != '!' && !ir.Same(Mod(word), api.Module{Funcs: []api.Func{f}}) {
			word = "!" + word
		}
		out = append(out, word)
	}
	for _, g := range m.Globs {
		out = append(out, letter(g.Bind, g.Here)+g.Name+"*"+number("#", g.Init))
	}
	return strings.Join(out, " ")
}

// letter is the one that such a word begins with.
func letter(bind int, here bool) string {
	for _, s := range signs {
		if s.bind == bind && s.here == here {
			return string(s.letter)
		}
	}
	return "!"
}

// number is a count as it stands in a word, if it isn't 0.
func number(mark string, n uint64) string {
	if n == 0 {
		return ""
	}
	return mark + strconv.FormatUint(n, 10)
}

// told is what a word tells of a function's blocks.
func told(l []api.Block) string {
	var parts []string
	for _, b := range l {
		var refs []string
		for _, i := range b.Ins[min(1, len(b.Ins)):] {
			refs = append(refs, refOf(i))
		}
		parts = append(parts, strings.Join(refs, ","))
	}
	out := ""
	if len(l) > 0 && len(l[0].Ins) > 0 {
		out = number("#", l[0].Ins[0].K)
	}
	if refs := strings.Join(parts, ";"); refs != "" {
		out += ":" + refs
	}
	return out
}

// refOf is an instruction as named takes it.
func refOf(i api.Inst) string {
	switch i.Op {
	case api.ILoad:
		return i.Name + "*"
	case api.IStore:
		return i.Name + "="
	}
	return i.Name + number("/", uint64(len(i.Args)))
}
