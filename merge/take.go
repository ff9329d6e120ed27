package merge

import (
	"marline/api"
)

// entryName is that of the function with which a program begins.
const entryName = "main"

// taker takes over what the one module is made of.
type taker struct {
	defs map[string]api.Def // of each shared name, till it is taken over
	kept func(string) bool  // does a name bind everywhere in the one module, too?
}

// byName are definitions by their names.
func byName(l []api.Def) map[string]api.Def {
	out := map[string]api.Def{}
	for _, d := range l {
		out[d.Name] = d
	}
	return out
}

// among asks of a name if it is main or one of keep.
func among(keep []string) func(string) bool {
	names := map[string]struct{}{entryName: {}}
	for _, name := range keep {
		names[name] = struct{}{}
	}
	return func(name string) bool {
		_, is := names[name]
		return is
	}
}

// defines: is each of these names defined, by something that is there?
func (t taker) defines(names []string) bool {
	for _, name := range names {
		if !t.defs[name].Here {
			return false
		}
	}
	return true
}

// whole is the one module that modules make, however great it is.
func (t taker) whole(l []api.Module) api.Module {
	var out api.Module
	for mod, names := range giveAll(l) {
		out.Funcs = behind(out.Funcs, func(f api.Func) (api.Func, bool) {
			f, is := t.function(f, mod)
			return renamed(f, names.of), is
		}, l[mod].Funcs...)
		out.Globs = behind(out.Globs, func(g api.Glob) (api.Glob, bool) {
			g, is := t.global(g, mod)
			g.Name = names.of(g.Name)
			return g, is
		}, l[mod].Globs...)
	}
	return out
}

// behind is a list, and behind it what is taken of each of more, if something is.
func behind[T any](l []T, take func(T) (T, bool), more ...T) []T {
	for _, one := range more {
		if taken, is := take(one); is {
			l = append(l, taken)
		}
	}
	return l
}

// settles: is an item of this module the one by which its name is settled, and is the name's definition there?
func (t taker) settles(name string, mod int, here bool) (settled, there bool) {
	d, is := t.defs[name]
	if !is || d.Mod != mod || d.Here && !here {
		return false, false
	}
	delete(t.defs, name) // or a second item of the name would be taken, too
	return true, d.Here
}

// bind is how a name that was shared binds in the one module.
func (t taker) bind(name string) int {
	if t.kept(name) {
		return api.BStrong
	}
	return api.BLocal
}

// function is what is taken over of a function, by its old names, and whether something is.
func (t taker) function(f api.Func, mod int) (api.Func, bool) {
	if f.Bind == api.BLocal {
		return f, true
	}
	settled, there := t.settles(f.Name, mod, len(f.Blocks) > 0)
	if !settled {
		return api.Func{}, false
	}
	if !there {
		f.Blocks = nought(f.Params)
	}
	f.Bind = t.bind(f.Name)
	return f, true
}

// global is what is taken over of a global, likewise.
func (t taker) global(g api.Glob, mod int) (api.Glob, bool) {
	if g.Bind == api.BLocal {
		return g, true
	}
	settled, there := t.settles(g.Name, mod, g.Here)
	if !settled {
		return api.Glob{}, false
	}
	if !there {
		g.Here, g.Init = true, 0
	}
	g.Bind = t.bind(g.Name)
	return g, true
}

// nought are the blocks of a function that gives back 0, whatever it is handed.
func nought(params int) []api.Block {
	return []api.Block{{
		Params: params,
		Ins:    []api.Inst{{Op: api.IConst}},
		End:    api.Term{Kind: api.TRet, A: params},
	}}
}
