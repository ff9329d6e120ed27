package ir

import (
	"slices"

	"marline/api"
)

// sameFunc: are two functions the same?
func sameFunc(a, b api.Func) bool {
	return a.Name == b.Name && a.Bind == b.Bind && a.Params == b.Params && slices.EqualFunc(a.Blocks, b.Blocks, sameBlock)
}

// sameBlock: are two blocks the same?
func sameBlock(a, b api.Block) bool {
	return a.Params == b.Params && slices.EqualFunc(a.Ins, b.Ins, sameInst) && sameEnd(a.End, b.End)
}

// sameInst: are two instructions the same?
func sameInst(a, b api.Inst) bool {
	return a.Op == b.Op && a.A == b.A && a.B == b.B && a.K == b.K && a.Name == b.Name && slices.Equal(a.Args, b.Args)
}

// sameEnd: are two ends the same?
func sameEnd(a, b api.Term) bool {
	return a.Kind == b.Kind && a.A == b.A && a.To == b.To && slices.Equal(a.Args, b.Args) && a.Else == b.Else && slices.Equal(a.Elses, b.Elses)
}
