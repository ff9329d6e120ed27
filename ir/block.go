package ir

import (
	"iter"

	"marline/api"
)

// mayName: may a function or a global have that name?
func mayName(s string) bool {
	return len(s) >= 1 && len(s) <= api.MaxName
}

// mayBind: may a name bind so?
func mayBind(bind int) bool {
	return bind >= api.BLocal && bind <= api.BWeak
}

// mayParams: may a function or a block be handed so many values?
func mayParams(n int) bool {
	return n >= 0 && n <= api.MaxArgs
}

// insts goes through a function's instructions, block by block, each with how many values its block has ahead of it.
func insts(f api.Func) iter.Seq2[int, api.Inst] {
	return func(yield func(int, api.Inst) bool) {
		for _, b := range f.Blocks {
			for k, i := range b.Ins {
				if !yield(b.Params+k, i) {
					return
				}
			}
		}
	}
}

// rightBlocks: is all right that stands in a function's blocks?
func rightBlocks(f api.Func) bool {
	for _, b := range f.Blocks {
		if !mayParams(b.Params) || len(b.Ins) > api.MaxInsts || !rightEnd(b, f.Blocks) {
			return false
		}
	}
	for n, i := range insts(f) {
		if !Inst(i, n) {
			return false
		}
	}
	return true
}

// rightEnd: is the end of a block, one of all these, right?
func rightEnd(b api.Block, all []api.Block) bool {
	t, n := b.End, Values(b)
	goes := func(to int, args []int) bool {
		return among(len(all), to) && len(args) == all[to].Params && among(n, args...)
	}
	switch t.Kind {
	case api.TJump:
		return goes(t.To, t.Args) && t.A == 0 && t.Else == 0 && len(t.Elses) == 0
	case api.TIf:
		return among(n, t.A) && goes(t.To, t.Args) && goes(t.Else, t.Elses)
	case api.TRet:
		return among(n, t.A) && t.To == 0 && len(t.Args) == 0 && t.Else == 0 && len(t.Elses) == 0
	}
	return false
}
