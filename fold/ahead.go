package fold

import (
	"marline/api"
	"marline/eval"
)

// value is what is known of one ahead of any run: what it is, if it is known.
type value struct {
	is    uint64
	known bool
}

// handed is how many values a block is handed.
func handed(b api.Block) int {
	return max(b.Params, 0)
}

// ahead tells what is known of the values that a block's instructions give, and of any value by its number. What it is handed has no row: of that there may be more than memory holds.
func ahead(b api.Block) (row []value, known func(int) value) {
	first := handed(b)
	known = func(number int) value {
		if number < first || number-first >= len(row) {
			return value{}
		}
		return row[number-first]
	}
	for _, i := range b.Ins {
		row = append(row, given(i, known))
	}
	return row, known
}

// given is what is known of the value that an instruction gives.
func given(i api.Inst, known func(int) value) value {
	switch {
	case i.Op == api.IConst:
		return value{i.K, true}
	case reckons(i.Op):
		a, b := known(i.A), known(i.B)
		if a.known && b.known {
			return value{eval.Reckon(i.Op, a.is, b.is), true}
		}
	}
	return value{}
}

// reckons: does an operation make a value of two others alone?
func reckons(op int) bool {
	return op >= api.IAdd && op <= api.IEq
}

// acts: is an instruction any but one that gives a number, or reckons one?
func acts(i api.Inst) bool {
	return i.Op != api.IConst && !reckons(i.Op)
}

// end is a block's end, where that much is known of its A.
func end(t api.Term, a value) api.Term {
	switch {
	case t.Kind != api.TIf, !a.known:
		return t
	case a.is == 0:
		t.To, t.Args = t.Else, t.Elses
		fallthrough // it always goes there, as it always goes to To otherwise
	default:
		return api.Term{Kind: api.TJump, To: t.To, Args: t.Args}
	}
}
