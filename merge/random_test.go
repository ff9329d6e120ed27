package merge_test

import (
	"fmt"
	"strings"

	"marline/api"
)

// oneOf is one of these texts.
func (r *random) oneOf(l ...string) string {
	return l[r.below(len(l))]
}

// some are so many values below n.
func (r *random) some(n, many int) []int {
	var l []int
	for range many {
		l = append(l, r.below(n))
	}
	return l
}

// wholeModule is one that is whole, with functions of all sorts; what isn't there is weak, and nobody names it.
func (r *random) wholeModule() api.Module {
	m := api.Module{Funcs: []api.Func{{Name: "main", Bind: api.BStrong}}}
	for n := range r.below(5) {
		m.Funcs = append(m.Funcs, api.Func{Name: r.oneOf("f", ".") + fmt.Sprint(n), Bind: 1 + r.below(3), Params: r.below(4)})
	}
	for n := range 1 + r.below(4) {
		m.Globs = append(m.Globs, api.Glob{Name: fmt.Sprint("g", n), Bind: 1 + r.below(3), Here: true, Init: uint64(r.below(500))})
	}
	for at := range m.Funcs {
		m.Funcs[at].Blocks = r.blocks(m.Funcs[at].Params, m)
	}
	m.Funcs[0].Bind = 2 + r.below(2)
	m.Funcs = append(m.Funcs, api.Func{Name: "away", Bind: api.BWeak, Params: r.below(7)})
	m.Globs = append(m.Globs, api.Glob{Name: "gone", Bind: api.BWeak})
	at := r.below(len(m.Funcs)) // main isn't always the first
	m.Funcs[0], m.Funcs[at] = m.Funcs[at], m.Funcs[0]
	return m
}

// blocks are those of a function with so many Params, in a module that has these names, all of them here.
func (r *random) blocks(params int, m api.Module) []api.Block {
	l := make([]api.Block, 1+r.below(3))
	for at := range l {
		l[at].Params = r.below(4)
	}
	l[0].Params = params
	for at := range l {
		b := &l[at]
		b.Ins = append(b.Ins, api.Inst{Op: api.IConst, K: uint64(r.below(1 << 20))})
		for range r.below(7) {
			b.Ins = append(b.Ins, r.inst(b.Params+len(b.Ins), m))
		}
		b.End = r.end(b.Params+len(b.Ins), l)
	}
	return l
}

// inst is an instruction that is right among n values.
func (r *random) inst(n int, m api.Module) api.Inst {
	a, b := r.below(n), r.below(n)
	name := m.Globs[r.below(len(m.Globs))].Name
	switch op := 1 + r.below(20); op {
	case api.IConst:
		return api.Inst{Op: op, K: uint64(r.below(1 << 20))}
	case api.ILoad:
		return api.Inst{Op: op, Name: name}
	case api.IStore:
		return api.Inst{Op: op, Name: name, A: a}
	case api.IRead:
		return api.Inst{Op: op}
	case api.IWrite:
		return api.Inst{Op: op, A: a}
	case api.ICall, 17, 18, 19, 20: // as often as a few of the others together
		f := m.Funcs[r.below(len(m.Funcs))]
		return api.Inst{Op: api.ICall, Name: f.Name, Args: r.some(n, f.Params)}
	default:
		return api.Inst{Op: op, A: a, B: b}
	}
}

// end is one of a block with n values.
func (r *random) end(n int, all []api.Block) api.Term {
	to, other := r.below(len(all)), r.below(len(all))
	switch r.below(5) {
	case 0:
		return api.Term{Kind: api.TJump, To: to, Args: r.some(n, all[to].Params)}
	case 1:
		return api.Term{Kind: api.TIf, A: r.below(n), To: to, Args: r.some(n, all[to].Params), Else: other, Elses: r.some(n, all[other].Params)}
	}
	return api.Term{Kind: api.TRet, A: r.below(n)}
}

// kinds are what names of some modules are: a number of Params, or a global.
var kinds = map[string]string{"main": "", "a": "", "b": "/2", "c": "/1", "X": "*", "Y": "*", ".0": "", ".1": "*", ".2": "/2", ".3": "", ".5": "*"}

// named are these names, in an order of their own.
var named = []string{"main", "a", "b", "c", "X", "Y", ".0", ".1", ".2", ".3", ".5"}

// someModules are up to 6 modules of a few names, or some more, each of which is right.
func (r *random) someModules() []api.Module {
	var texts []string
	number, many := 0, 1+r.below(6)
	if r.below(10) == 0 {
		many += 9
	}
	for range many {
		var names, words []string
		for _, name := range named {
			if r.below(3) == 0 {
				names = append(names, name)
			}
		}
		for _, name := range names {
			how := r.oneOf("+", "~", "?", "=", "?", "=", "~", "-", "=")
			if how == "+" && r.below(many) > 0 {
				how = "~" // or nearly all are defined twice
			}
			if name == "main" {
				how = r.oneOf("~", "?", "=", "~", "~", "~", "+")
			}
			number++
			words = append(words, how+name+kinds[name]+r.rest(how, kinds[name] == "*", number, names))
		}
		texts = append(texts, strings.Join(words, " "))
	}
	return mods(strings.Join(texts, "|"))
}

// rest is the rest of a word: what number it has, if it is here, and what it names.
func (r *random) rest(how string, global bool, number int, names []string) string {
	if how == "?" || how == "-" {
		return ""
	}
	out := fmt.Sprint("#", number)
	mark := ":"
	for !global && r.below(3) > 0 {
		name := names[r.below(len(names))]
		out += mark + name + kinds[name]
		if kinds[name] == "*" && r.below(2) == 0 {
			out = strings.TrimSuffix(out, "*") + "="
		}
		mark = ","
		if strings.Count(out, ",") > 5 {
			break
		}
	}
	return out
}
