package trim

import (
	"slices"

	"marline/api"
	"marline/ir"
)

// marks are numbers of values, or of blocks.
type marks map[int]struct{}

// add marks these numbers, too.
func (m marks) add(l ...int) {
	for _, number := range l {
		m[number] = struct{}{}
	}
}

// has: is a number marked?
func (m marks) has(number int) bool {
	_, is := m[number]
	return is
}

// keep: does the instruction stay that gives the value of that number, where the values that are used are marked?
func (m marks) keep(number int, i api.Inst) bool {
	return does(i.Op) || m.has(number)
}

// row tells of the numbers below n whether they are marked.
func (m marks) row(n int) []bool {
	var out []bool
	for number := range n {
		out = append(out, m.has(number))
	}
	return out
}

// does: do instructions of that Op something?
func does(op int) bool {
	return op == api.IStore || op == api.ICall || op == api.IRead || op == api.IWrite
}

// used marks the values of a block that are used. Who uses a value stands behind it, so that once backwards is enough.
func used(b api.Block) marks {
	met := marks{}
	met.add(endUses(b.End)...)
back:
	for at, i := range slices.Backward(b.Ins) {
		if !met.keep(b.Params+at, i) {
			continue back // what it uses isn't used by it
		}
		met.add(ir.Uses(i)...)
	}
	return met
}

// endUses are the values that a block's end uses.
func endUses(t api.Term) []int {
	l := slices.Concat(t.Args, t.Elses)
	if usesA(t) {
		l = append(l, t.A)
	}
	return l
}

// usesA: is the A of a block's end a value?
func usesA(t api.Term) bool {
	return t.Kind == api.TIf || t.Kind == api.TRet
}

// reached marks the blocks of a function that are reached.
func reached(f api.Func) marks {
	met := marks{}
	for next := []int{0}; len(next) > 0; {
		number := next[0]
		next = next[1:]
		if number < 0 || number >= len(f.Blocks) || met.has(number) {
			continue
		}
		met.add(number)
		next = append(next, leads(f.Blocks[number].End)...)
	}
	return met
}

// leads are the blocks that an end leads to.
func leads(t api.Term) []int {
	switch t.Kind {
	case api.TJump:
		return []int{t.To}
	case api.TIf:
		return []int{t.To, t.Else}
	}
	return nil
}
