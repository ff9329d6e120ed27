package trim_test

import (
	"slices"

	"marline/api"
)

// uses are the values that an instruction uses, by the words of chapter 5.
func uses(i api.Inst) []int {
	switch i.Op {
	case 2, 3, 4, 5, 6, 7, 8, 9, 10, 11:
		return []int{i.A, i.B}
	case 13, 16:
		return []int{i.A}
	case 14:
		return i.Args
	}
	return nil
}

// doesOf: does an instruction something, by the chapter's words?
func doesOf(i api.Inst) bool {
	return slices.Contains([]int{13, 14, 15, 16}, i.Op)
}

// usedOf: is a value used, by the chapter's words? It is asked for anew of each that uses it.
func usedOf(b api.Block, value int) bool {
	t := b.End
	if t.Kind != 1 && t.A == value || slices.Contains(t.Args, value) || slices.Contains(t.Elses, value) {
		return true
	}
	for at, i := range b.Ins {
		if slices.Contains(uses(i), value) && (doesOf(i) || usedOf(b, b.Params+at)) {
			return true
		}
	}
	return false
}

// lessOf is how many of these numbers are below one.
func lessOf(out []int, number int) int {
	n := 0
	for _, one := range out {
		if one < number {
			n++
		}
	}
	return n
}

// nowOf are these numbers, each less by how many of those that are left out are below it.
func nowOf(out, l []int) []int {
	var now []int
	for _, number := range l {
		now = append(now, number-lessOf(out, number))
	}
	return now
}

// blockOf is what Block answers, by the chapter's words.
func blockOf(b api.Block) api.Block {
	var out []int
	for at, i := range b.Ins {
		if value := b.Params + at; !doesOf(i) && !usedOf(b, value) {
			out = append(out, value)
		}
	}
	k := api.Block{Params: b.Params, End: b.End}
	for at, i := range b.Ins {
		if slices.Contains(out, b.Params+at) {
			continue
		}
		n := nowOf(out, uses(i))
		switch {
		case i.Op == api.ICall:
			i.Args = n
		case len(n) > 0:
			n = append(n, 0)
			i.A, i.B = n[0], n[1]
		}
		k.Ins = append(k.Ins, i)
	}
	if k.End.Kind != api.TJump {
		k.End.A -= lessOf(out, k.End.A)
	}
	k.End.Args, k.End.Elses = nowOf(out, b.End.Args), nowOf(out, b.End.Elses)
	return k
}

// leadsOf: does an end lead to a block, by the chapter's words?
func leadsOf(t api.Term, to int) bool {
	return (t.Kind == 1 || t.Kind == 2) && t.To == to || t.Kind == 2 && t.Else == to
}

// reachedOf: which blocks are reached, by the chapter's words: one after the other, as long as there is one more?
func reachedOf(f api.Func) []int {
	var in []int
	for more := true; more; {
		more = false
		for to := range f.Blocks {
			is := to == 0
			for _, from := range in {
				is = is || leadsOf(f.Blocks[from].End, to)
			}
			if is && !slices.Contains(in, to) {
				in, more = append(in, to), true
			}
		}
	}
	slices.Sort(in)
	return in
}

// funcOf is what Func answers, by the chapter's words.
func funcOf(f api.Func) api.Func {
	in := reachedOf(f)
	k := f
	k.Blocks = nil
	for _, at := range in {
		b := blockOf(f.Blocks[at])
		if b.End.Kind != api.TRet {
			b.End.To = slices.Index(in, b.End.To)
		}
		if b.End.Kind == api.TIf {
			b.End.Else = slices.Index(in, b.End.Else)
		}
		k.Blocks = append(k.Blocks, b)
	}
	return k
}

// anyInst is an instruction that is right among n values.
func (r *random) anyInst(n int) api.Inst {
	op := 1 + r.Below(16)
	for n == 0 && op != api.IConst && op != api.ILoad && op != api.IRead {
		op = 1 + r.Below(16)
	}
	switch op {
	case api.IConst:
		return api.Inst{Op: op, K: uint64(r.Below(9))}
	case api.ILoad:
		return api.Inst{Op: op, Name: "x"}
	case api.IStore:
		return api.Inst{Op: op, Name: "x", A: r.Below(n)}
	case api.ICall:
		return api.Inst{Op: op, Name: "f", Args: r.Some(n, r.Below(7))}
	case api.IRead:
		return api.Inst{Op: op}
	case api.IWrite:
		return api.Inst{Op: op, A: r.Below(n)}
	}
	return api.Inst{Op: op, A: r.Below(n), B: r.Below(n)}
}

// anyFunc is a function that is right, of up to 16 blocks of up to 32 instructions; of what these do something is rare in some.
func (r *random) anyFunc() api.Func {
	f := api.Func{Name: "f", Bind: 1 + r.Below(3), Blocks: make([]api.Block, 1+r.Below([]int{2, 6, 16}[r.Below(3)]))}
	for at := range f.Blocks {
		f.Blocks[at].Params = r.Below(7)
	}
	f.Params = f.Blocks[0].Params
	for at := range f.Blocks {
		b := &f.Blocks[at]
		quiet := r.Below(2) == 0
		for range r.Below([]int{4, 12, 33}[r.Below(3)]) {
			i := r.anyInst(b.Params + len(b.Ins))
			for quiet && doesOf(i) && r.Below(8) > 0 {
				i = r.anyInst(b.Params + len(b.Ins))
			}
			b.Ins = append(b.Ins, i)
		}
		if b.Params+len(b.Ins) == 0 {
			b.Ins = []api.Inst{{Op: api.ILoad, Name: "x"}}
		}
		b.End = r.anyEnd(b.Params+len(b.Ins), f.Blocks)
	}
	return f
}

// anyEnd is a right end of a block, one of all these, that has n values.
func (r *random) anyEnd(n int, all []api.Block) api.Term {
	to, other := r.Below(len(all)), r.Below(len(all))
	switch kind := 1 + r.Below(3); kind {
	case api.TJump:
		return api.Term{Kind: kind, To: to, Args: r.Some(n, all[to].Params)}
	case api.TIf:
		return api.Term{Kind: kind, A: r.Below(n), To: to, Args: r.Some(n, all[to].Params), Else: other, Elses: r.Some(n, all[other].Params)}
	default:
		return api.Term{Kind: kind, A: r.Below(n)}
	}
}
