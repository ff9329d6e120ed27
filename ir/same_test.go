package ir_test

import (
	"testing"

	"marline/api"
	"marline/ir"
)

// changes are ways to change each field of a module, and each list of it.
func changes() map[string]func(*api.Module) {
	return map[string]func(*api.Module){
		"a function less":         func(m *api.Module) { m.Funcs = m.Funcs[:5] },
		"a function more":         func(m *api.Module) { m.Funcs = append(m.Funcs, api.Func{}) },
		"two functions swapped":   func(m *api.Module) { m.Funcs[0], m.Funcs[1] = m.Funcs[1], m.Funcs[0] },
		"a global less":           func(m *api.Module) { m.Globs = m.Globs[:3] },
		"a global more":           func(m *api.Module) { m.Globs = append(m.Globs, api.Glob{}) },
		"two globals swapped":     func(m *api.Module) { m.Globs[0], m.Globs[3] = m.Globs[3], m.Globs[0] },
		"no functions":            func(m *api.Module) { m.Funcs = nil },
		"no globals":              func(m *api.Module) { m.Globs = nil },
		"Name":                    func(m *api.Module) { m.Funcs[5].Name = "Caller" },
		"Bind":                    func(m *api.Module) { m.Funcs[3].Bind = api.BWeak },
		"Params":                  func(m *api.Module) { m.Funcs[3].Params = 5 },
		"no blocks":               func(m *api.Module) { m.Funcs[0].Blocks = nil },
		"a block less":            func(m *api.Module) { m.Funcs[1].Blocks = m.Funcs[1].Blocks[:15] },
		"a block more":            func(m *api.Module) { m.Funcs[1].Blocks = append(m.Funcs[1].Blocks, api.Block{}) },
		"two blocks swapped":      func(m *api.Module) { l := m.Funcs[2].Blocks; l[1], l[2] = l[2], l[1] },
		"Params of a block":       func(m *api.Module) { m.Funcs[1].Blocks[15].Params = 5 },
		"an instruction less":     func(m *api.Module) { b := &m.Funcs[1].Blocks[15]; b.Ins = b.Ins[:31] },
		"an instruction more":     func(m *api.Module) { b := &m.Funcs[0].Blocks[0]; b.Ins = append(b.Ins, api.Inst{}) },
		"instructions swapped":    func(m *api.Module) { l := m.Funcs[2].Blocks[0].Ins; l[0], l[9] = l[9], l[0] },
		"Op":                      func(m *api.Module) { m.Funcs[2].Blocks[0].Ins[9].Op = api.ILess },
		"A":                       func(m *api.Module) { m.Funcs[2].Blocks[0].Ins[9].A = 1 },
		"B":                       func(m *api.Module) { m.Funcs[2].Blocks[0].Ins[9].B = 9 },
		"K":                       func(m *api.Module) { m.Funcs[2].Blocks[2].Ins[2].K-- },
		"Name of an instruction":  func(m *api.Module) { m.Funcs[2].Blocks[1].Ins[3].Name = "seven" },
		"Args":                    func(m *api.Module) { m.Funcs[2].Blocks[1].Ins[3].Args[1] = 1 },
		"Args swapped":            func(m *api.Module) { l := m.Funcs[2].Blocks[1].Ins[3].Args; l[0], l[1] = l[1], l[0] },
		"one of Args less":        func(m *api.Module) { i := &m.Funcs[2].Blocks[1].Ins[3]; i.Args = i.Args[:1] },
		"one of Args more":        func(m *api.Module) { i := &m.Funcs[2].Blocks[1].Ins[2]; i.Args = []int{0} },
		"Kind":                    func(m *api.Module) { m.Funcs[2].Blocks[2].End.Kind = api.TJump },
		"A of an end":             func(m *api.Module) { m.Funcs[2].Blocks[2].End.A = 3 },
		"To":                      func(m *api.Module) { m.Funcs[2].Blocks[1].End.To = 0 },
		"Args of an end":          func(m *api.Module) { m.Funcs[2].Blocks[1].End.Args[1] = 1 },
		"one of an end's less":    func(m *api.Module) { e := &m.Funcs[2].Blocks[1].End; e.Args = e.Args[:1] },
		"Else":                    func(m *api.Module) { m.Funcs[2].Blocks[0].End.Else = 0 },
		"Elses":                   func(m *api.Module) { m.Funcs[2].Blocks[0].End.Elses[0] = 0 },
		"one of Elses less":       func(m *api.Module) { e := &m.Funcs[2].Blocks[0].End; e.Elses = e.Elses[:1] },
		"one of Elses more":       func(m *api.Module) { m.Funcs[0].Blocks[0].End.Elses = []int{0} },
		"Name of a global":        func(m *api.Module) { m.Globs[3].Name = "" },
		"Bind of a global":        func(m *api.Module) { m.Globs[3].Bind = api.BWeak },
		"Here":                    func(m *api.Module) { m.Globs[3].Here = false },
		"Init":                    func(m *api.Module) { m.Globs[3].Init = 1 << 63 },
		"what isn't right either": func(m *api.Module) { m.Funcs[0].Blocks[0].Ins[0].Name = "x" },
	}
}

// TestSame: P5.1, a module is the same as one of the same fields, and no other.
func TestSame(t *testing.T) {
	if a, b := whole(), copied(whole()); !ir.Same(a, b) || !ir.Same(a, a) {
		t.Error("two of the same fields aren't the same")
	}
	for why, change := range changes() {
		a, b := whole(), copied(whole())
		change(&b)
		before := told(b)
		if ir.Same(a, b) || ir.Same(b, a) {
			t.Errorf("%s: the same", why)
		}
		c := copied(whole())
		change(&c)
		if !ir.Same(b, c) {
			t.Errorf("%s: not the same as one that was changed likewise", why)
		}
		if told(a) != told(whole()) || told(b) != before {
			t.Errorf("%s: Same wrote into what it was handed", why)
		}
	}
}

// TestSameEmpty: P5.1 and R3, a list without elements is the same, nil or not.
func TestSameEmpty(t *testing.T) {
	a := api.Module{Funcs: []api.Func{seven("f"), {Name: "g"}}}
	b := api.Module{Funcs: []api.Func{seven("f"), {Name: "g", Blocks: []api.Block{}}}, Globs: []api.Glob{}}
	b.Funcs[0].Blocks[0].Ins[0].Args = []int{}
	b.Funcs[0].Blocks[0].End.Args = []int{}
	b.Funcs[0].Blocks[0].End.Elses = []int{}
	if !ir.Same(a, b) || !ir.Same(b, a) {
		t.Error("empty lists and nil aren't the same")
	}
	none := api.Module{Funcs: []api.Func{}, Globs: []api.Glob{}}
	if !ir.Same(api.Module{}, none) || !ir.Same(api.Module{}, api.Module{}) {
		t.Error("two of nothing aren't the same")
	}
	a.Funcs[0].Blocks[0].Ins, b.Funcs[0].Blocks[0].Ins = nil, []api.Inst{}
	if !ir.Same(a, b) {
		t.Error("empty rows of instructions and nil aren't the same")
	}
}
