package trim

import (
	"marline/api"
	"marline/ir"
	"marline/own"
)

// staying are those of a row that stay, and what number each has then; the row's own begin with first. What has no new number keeps its own: so does all that a block is handed.
func staying[T any](row []T, first int, stays func(int, T) bool) (out []T, now func(int) int) {
	fresh := map[int]int{}
	for at, one := range row {
		if number := first + at; stays(number, one) {
			fresh[number] = first + len(out)
			out = append(out, one)
		}
	}
	return out, func(number int) int {
		if is, there := fresh[number]; there {
			return is
		}
		return number
	}
}

// instAnew is an instruction that uses the values by the numbers that they have now.
func instAnew(i api.Inst, now func(int) int) api.Inst {
	switch uses := own.Each(ir.Uses(i), now); {
	case i.Op == api.ICall:
		i.Args = uses
	case len(uses) == 2:
		i.A, i.B = uses[0], uses[1]
	case len(uses) == 1:
		i.A = uses[0]
	}
	return i
}

// endAnew is a block's end that uses the values by the numbers that they have now.
func endAnew(t api.Term, now func(int) int) api.Term {
	if usesA(t) {
		t.A = now(t.A)
	}
	t.Args, t.Elses = own.Each(t.Args, now), own.Each(t.Elses, now)
	return t
}

// leadsAnew is a block's end that leads to the blocks by the numbers that they have now.
func leadsAnew(t api.Term, now func(int) int) api.Term {
	switch t.Kind {
	case api.TIf:
		t.Else = now(t.Else)
		fallthrough // it leads to To, as a TJump does
	case api.TJump:
		t.To = now(t.To)
	}
	return t
}

// ifRight is Func of a function; one that isn't right stays as it is.
func ifRight(f api.Func) api.Func {
	if !ir.Func(f) {
		return own.Func(f)
	}
	return Func(f)
}
