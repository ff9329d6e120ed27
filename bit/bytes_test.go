package bit_test

import (
	"fmt"
	"strings"
	"testing"

	"marline/api"
)

// written are modules whose bytes are written out.
func written() []struct {
	why string
	m   api.Module
	s   string
} {
	one := func(i api.Inst, s string) (api.Module, string) {
		m := api.Module{Funcs: []api.Func{{Name: "f", Bind: 2, Params: 2, Blocks: []api.Block{{Params: 2, Ins: []api.Inst{i}, End: ret(1)}}}}, Globs: []api.Glob{{Name: "g", Bind: 3}}}
		return m, "MIR1\x01\x01f\x02\x02\x01\x02\x01" + s + "\x03\x01\x01\x01g\x03\x00\x00"
	}
	end := func(e api.Term, s string) (api.Module, string) {
		m := api.Module{Funcs: []api.Func{{Name: "f", Bind: 1, Params: 2, Blocks: []api.Block{{Params: 2, End: e}, {Params: 1, End: ret(0)}}}}}
		return m, "MIR1\x01\x01f\x01\x02\x02\x02\x00" + s + "\x01\x00\x03\x00\x00"
	}
	type row = struct {
		why string
		m   api.Module
		s   string
	}
	rows := []row{
		{"nothing", api.Module{}, "MIR1\x00\x00"},
		{"empty lists", api.Module{Funcs: []api.Func{}, Globs: []api.Glob{}}, "MIR1\x00\x00"},
		{"main", api.Module{Funcs: []api.Func{seven("main")}}, "MIR1\x01\x04main\x02\x00\x01\x00\x01\x01\x07\x03\x00\x00"},
		{"no blocks", api.Module{Funcs: []api.Func{{Name: "f", Bind: 3, Params: 6, Blocks: []api.Block{}}}}, "MIR1\x01\x01f\x03\x06\x00\x00"},
		{"a global that is here", api.Module{Globs: []api.Glob{{Name: "\xff", Bind: 1, Here: true, Init: 128}}}, "MIR1\x00\x01\x01\xff\x01\x01\x80\x01"},
		{"a global that isn't", api.Module{Globs: []api.Glob{{Name: sixteen, Bind: 2}}}, "MIR1\x00\x01\x10sixteen_bytes_16\x02\x00\x00"},
		{"a global that is here, of 0", api.Module{Globs: []api.Glob{{Name: "g", Bind: 3, Here: true}}}, "MIR1\x00\x01\x01g\x03\x01\x00"},
	}
	add := func(why string, m api.Module, s string) { rows = append(rows, row{why, m, s}) }
	for _, c := range []struct {
		i api.Inst
		s string
	}{
		{konst(300), "\x01\xac\x02"}, {konst(1<<64 - 1), "\x01\xff\xff\xff\xff\xff\xff\xff\xff\xff\x01"}, {konst(0), "\x01\x00"},
		{api.Inst{Op: api.IAdd, A: 1, B: 0}, "\x02\x01\x00"}, {api.Inst{Op: api.ISub, A: 0, B: 1}, "\x03\x00\x01"}, {api.Inst{Op: api.IMul, A: 1, B: 1}, "\x04\x01\x01"},
		{api.Inst{Op: api.IAnd, A: 1}, "\x05\x01\x00"}, {api.Inst{Op: api.IOr, B: 1}, "\x06\x00\x01"}, {api.Inst{Op: api.IXor, A: 1}, "\x07\x01\x00"}, {api.Inst{Op: api.IShl, B: 1}, "\x08\x00\x01"},
		{api.Inst{Op: api.IShr, A: 1}, "\x09\x01\x00"}, {api.Inst{Op: api.ILess, B: 1}, "\x0a\x00\x01"}, {api.Inst{Op: api.IEq, A: 1}, "\x0b\x01\x00"},
		{api.Inst{Op: api.ILoad, Name: "g"}, "\x0c\x01g"}, {api.Inst{Op: api.IStore, A: 1, Name: "g"}, "\x0d\x01\x01g"},
		{api.Inst{Op: api.ICall, Name: "f", Args: []int{1, 0}}, "\x0e\x01f\x02\x01\x00"}, {api.Inst{Op: api.IRead}, "\x0f"}, {api.Inst{Op: api.IWrite, A: 1}, "\x10\x01"},
	} {
		m, s := one(c.i, c.s)
		add(fmt.Sprintf("%+v", c.i), m, s)
	}
	for _, c := range []struct {
		e api.Term
		s string
	}{
		{api.Term{Kind: api.TJump, To: 1, Args: []int{1}}, "\x01\x01\x01\x01"},
		{api.Term{Kind: api.TJump, To: 0, Args: []int{1, 0}}, "\x01\x00\x02\x01\x00"},
		{api.Term{Kind: api.TIf, A: 1, To: 0, Args: []int{0, 1}, Else: 1, Elses: []int{1}}, "\x02\x01\x00\x02\x00\x01\x01\x01\x01"},
		{api.Term{Kind: api.TIf, A: 0, To: 1, Args: []int{1}, Else: 0, Elses: []int{1, 0}}, "\x02\x00\x01\x01\x01\x00\x02\x01\x00"},
		{ret(1), "\x03\x01"},
	} {
		m, s := end(c.e, c.s)
		add(fmt.Sprintf("%+v", c.e), m, s)
	}
	return rows
}

// TestBytes: P6.2, modules whose bytes are written out.
func TestBytes(t *testing.T) {
	for _, x := range written() {
		expectBytes(t, x.why, x.m, x.s, api.OK)
	}
}

// TestBytesAll: P6.2, modules of all sorts, by the chapter's words, part by part.
func TestBytesAll(t *testing.T) {
	for why, m := range modules() {
		expectBytes(t, why, m, laid(m), api.OK)
	}
}

// spoilt are ways to make the module each wrong; what Check answers then, and what Take answers of its parts, if they are laid all the same: OK, where they don't tell what is wrong.
var spoilt = []struct {
	why     string
	spoil   func(*api.Module)
	e, take api.Errno
}{
	{"17 functions", func(m *api.Module) { m.Funcs = make([]api.Func, 17) }, api.ErrBig, api.ErrBig},
	{"17 globals", func(m *api.Module) { m.Globs = make([]api.Glob, 17) }, api.ErrBig, api.ErrBig},
	{"no Name", func(m *api.Module) { m.Funcs[3].Name = "" }, api.ErrShape, api.ErrShape},
	{"a Name of 17 bytes", func(m *api.Module) { m.Funcs[3].Name = strings.Repeat("n", 17) }, api.ErrShape, api.ErrBig},
	{"Bind 0", func(m *api.Module) { m.Funcs[3].Bind = 0 }, api.ErrShape, api.ErrShape},
	{"Bind below 0", func(m *api.Module) { m.Funcs[3].Bind = -1 }, api.ErrShape, api.ErrBig},
	{"Bind far above", func(m *api.Module) { m.Funcs[3].Bind = 1<<32 + 1 }, api.ErrShape, api.ErrBig},
	{"Op 0", func(m *api.Module) { m.Funcs[3].Blocks[0].Ins[0].Op = 0 }, api.ErrShape, api.ErrForm},
	{"Op 17", func(m *api.Module) { m.Funcs[3].Blocks[0].Ins[0].Op = 17 }, api.ErrShape, api.ErrForm},
	{"a field that its Op hasn't", func(m *api.Module) { m.Funcs[3].Blocks[0].Ins[0].B = 1 }, api.ErrShape, api.OK},
	{"Kind 0", func(m *api.Module) { m.Funcs[3].Blocks[0].End.Kind = 0 }, api.ErrShape, api.ErrForm},
	{"Kind 4", func(m *api.Module) { m.Funcs[3].Blocks[0].End.Kind = 4 }, api.ErrShape, api.ErrForm},
	{"a field that its Kind hasn't", func(m *api.Module) { m.Funcs[3].Blocks[0].End.Else = 1 }, api.ErrShape, api.OK},
	{"a value that isn't given", func(m *api.Module) { m.Funcs[3].Blocks[0].End.A = 1 }, api.ErrShape, api.ErrShape},
	{"33 instructions", func(m *api.Module) { m.Funcs[3].Blocks[0].Ins = make([]api.Inst, 33) }, api.ErrShape, api.ErrBig},
	{"a global's Init, that isn't here", func(m *api.Module) { m.Globs[1].Init = 1 }, api.ErrShape, api.ErrShape},
	{"a global's Bind", func(m *api.Module) { m.Globs[1].Bind = 4 }, api.ErrShape, api.ErrShape},
	{"two of one name", func(m *api.Module) { m.Globs[2].Name = "main" }, api.ErrTwice, api.ErrTwice},
	{"a name that nothing has", func(m *api.Module) { m.Globs[0].Name = "other" }, api.ErrNone, api.ErrNone},
	{"a call with too few", func(m *api.Module) { m.Funcs[1].Params = 1 }, api.ErrArg, api.ErrArg},
}

// TestBytesCheck: P6.2, each error of Check.
func TestBytesCheck(t *testing.T) {
	for _, c := range spoilt {
		m := each()
		c.spoil(&m)
		expectBytes(t, c.why, m, "", c.e)
	}
}

// TestBytesBig: P6.2, as many bytes as MaxBytes, one less and more.
func TestBytesBig(t *testing.T) {
	for _, n := range []int{65500, 65534, 65535} {
		m := sized(t, n)
		expectBytes(t, fmt.Sprint(n), m, laid(m), api.OK)
	}
	for _, n := range []int{65536, 65537, 65560, 65536 + 25, 80000, 100000} {
		expectBytes(t, fmt.Sprint(n), sized(t, n), "", api.ErrBig)
	}
}

// TestBytesOrder: P6.2 and R1, Check's error is told of a module that is too long, too.
func TestBytesOrder(t *testing.T) {
	m := sized(t, 70000)
	m.Funcs[7].Bind = 0
	expectBytes(t, "ErrShape", m, "", api.ErrShape)
	m = sized(t, 70000)
	m.Funcs[1].Name = sixteen
	expectBytes(t, "ErrTwice", m, "", api.ErrTwice)
	m = sized(t, 70000)
	m.Funcs[0].Name = "other"
	expectBytes(t, "ErrNone", m, "", api.ErrNone)
	m = sized(t, 70000)
	m.Funcs[0].Blocks[3].Ins[3].Args = []int{0}
	expectBytes(t, "ErrArg", m, "", api.ErrArg)
}
