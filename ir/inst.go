package ir

import (
	"marline/api"
)

// among: are all of these 0 to n less 1?
func among(n int, l ...int) bool {
	for _, v := range l {
		if v < 0 || v >= n {
			return false
		}
	}
	return true
}

// hasName: has an instruction of that Op a name?
func hasName(op int) bool {
	return op == api.ILoad || op == api.IStore || op == api.ICall
}

// asked is an instruction with what its Op asks for alone: all else is 0 and empty.
func asked(i api.Inst) api.Inst {
	k := api.Inst{Op: i.Op}
	switch uses := Uses(i); {
	case i.Op == api.ICall:
		k.Args = uses
	case len(uses) == 2:
		k.A, k.B = uses[0], uses[1]
	case len(uses) == 1:
		k.A = uses[0]
	case i.Op == api.IConst:
		k.K = i.K
	}
	if hasName(i.Op) {
		k.Name = i.Name
	}
	return k
}
