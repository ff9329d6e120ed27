package bit_test

import (
	"encoding/binary"
	"fmt"
	"slices"
	"strings"
	"testing"

	"marline/api"
	"marline/bit"
)

// random gives numbers: each row of them is always the same.
type random uint64

// below is a number below n.
func (r *random) below(n int) int {
	*r = *r*6364136223846793005 + 1442695040888963407
	return int(uint64(*r>>33) % uint64(n))
}

// wide is a number of any size: of so many bits, as a rule.
func (r *random) wide() uint64 {
	v := uint64(r.below(1<<31))<<33 ^ uint64(r.below(1<<31))<<2 ^ uint64(r.below(4))
	return v >> r.below(64)
}

// num are a number's bytes, by the library.
func num(v uint64) string {
	return string(binary.AppendUvarint(nil, v))
}

// edges are the numbers about which there is something to get wrong: those that the document names, and those on both sides of each power of 2 and of 128.
func edges() []uint64 {
	l := []uint64{0, 1, 127, 128, 300, 1<<32 - 1, 1 << 32, 1<<64 - 1}
	for n := range 64 {
		l = append(l, 1<<n-1, 1<<n, 1<<n+1, -(1 << n))
	}
	slices.Sort(l)
	return slices.Compact(l)
}

// kind is what a part of a module's bytes is.
type kind int

const (
	head  kind = iota // MIR1
	plain             // a number
	wide              // a K or an Init
	count             // of how many there are
	size              // of a text's length
	text              // a text
	op                // an instruction's
	ends              // a block's end's
	here              // 1 or 0
)

// part is one of a module's bytes' parts: what it is, the limit of a count, its number, its bytes.
type part struct {
	kind  kind
	limit uint64
	v     uint64
	s     string
}

// parts are those of a module's bytes, laid one by one, as the chapter's words tell them.
type parts []part

func (p *parts) number(k kind, v uint64) {
	*p = append(*p, part{kind: k, v: v, s: num(v)})
}

func (p *parts) count(n, limit int) {
	*p = append(*p, part{kind: count, limit: uint64(limit), v: uint64(n), s: num(uint64(n))})
}

func (p *parts) text(s string) {
	p.number(size, uint64(len(s)))
	*p = append(*p, part{kind: text, s: s})
}

func (p *parts) values(l []int) {
	p.count(len(l), 6)
	for _, v := range l {
		p.number(plain, uint64(v))
	}
}

func (p *parts) inst(i api.Inst) {
	x := fieldsOf(i.Op)
	p.number(op, uint64(i.Op))
	if x.k {
		p.number(wide, i.K)
	}
	if x.a {
		p.number(plain, uint64(i.A))
	}
	if x.b {
		p.number(plain, uint64(i.B))
	}
	if x.name {
		p.text(i.Name)
	}
	if x.args {
		p.values(i.Args)
	}
}

func (p *parts) end(t api.Term) {
	p.number(ends, uint64(t.Kind))
	if t.Kind != api.TJump {
		p.number(plain, uint64(t.A))
	}
	if t.Kind != api.TRet {
		p.number(plain, uint64(t.To))
		p.values(t.Args)
	}
	if t.Kind == api.TIf {
		p.number(plain, uint64(t.Else))
		p.values(t.Elses)
	}
}

// partsOf are those of a module, right or not.
func partsOf(m api.Module) parts {
	p := parts{{kind: head, s: "MIR1"}}
	p.count(len(m.Funcs), 16)
	for _, f := range m.Funcs {
		p.text(f.Name)
		p.number(plain, uint64(f.Bind))
		p.number(plain, uint64(f.Params))
		p.count(len(f.Blocks), 16)
		for _, b := range f.Blocks {
			p.number(plain, uint64(b.Params))
			p.count(len(b.Ins), 32)
			for _, i := range b.Ins {
				p.inst(i)
			}
			p.end(b.End)
		}
	}
	p.count(len(m.Globs), 16)
	for _, g := range m.Globs {
		p.text(g.Name)
		p.number(plain, uint64(g.Bind))
		is := uint64(0)
		if g.Here {
			is = 1
		}
		p.number(here, is)
		p.number(wide, g.Init)
	}
	return p
}

// joined are the bytes of all of them.
func (p parts) joined() string {
	var b strings.Builder
	for _, x := range p {
		b.WriteString(x.s)
	}
	return b.String()
}

// laid are a module's bytes, right or not.
func laid(m api.Module) string {
	return partsOf(m).joined()
}

// fields are which of its fields an instruction has.
type fields struct {
	k, a, b, name, args bool
}

// fieldsOf are those of one of that Op.
func fieldsOf(op int) fields {
	switch {
	case op == api.IConst:
		return fields{k: true}
	case op >= api.IAdd && op <= api.IEq:
		return fields{a: true, b: true}
	case op == api.ILoad:
		return fields{name: true}
	case op == api.IStore:
		return fields{a: true, name: true}
	case op == api.ICall:
		return fields{name: true, args: true}
	case op == api.IWrite:
		return fields{a: true}
	}
	return fields{}
}

// konst is an instruction that gives a number.
func konst(k uint64) api.Inst {
	return api.Inst{Op: api.IConst, K: k}
}

// ret is an end that gives back a value.
func ret(a int) api.Term {
	return api.Term{Kind: api.TRet, A: a}
}

// seven is a function that gives back 7.
func seven(name string) api.Func {
	return api.Func{Name: name, Bind: api.BStrong, Blocks: []api.Block{{Ins: []api.Inst{konst(7)}, End: ret(0)}}}
}

// The longest name that may be.
const sixteen = "sixteen_bytes_16"

// each is a module that is right, with an instruction of each Op, an end of each Kind, names of 1 and of MaxName bytes, and globals of all sorts.
func each() api.Module {
	return api.Module{
		Funcs: []api.Func{
			{Name: sixteen, Bind: api.BLocal, Params: 2, Blocks: []api.Block{
				{Params: 2, Ins: []api.Inst{
					{Op: api.IAdd, A: 0, B: 1}, {Op: api.ISub, A: 2, B: 0}, {Op: api.IMul, A: 3, B: 3}, {Op: api.IAnd, A: 1, B: 4}, {Op: api.IOr, A: 0, B: 5},
					{Op: api.IXor, A: 6, B: 6}, {Op: api.IShl, A: 7, B: 1}, {Op: api.IShr, A: 8, B: 0}, {Op: api.ILess, A: 9, B: 8}, {Op: api.IEq, A: 0, B: 10},
				}, End: api.Term{Kind: api.TIf, A: 11, To: 1, Args: []int{0}, Else: 2, Elses: []int{1, 11}}},
				{Params: 1, Ins: []api.Inst{
					{Op: api.ILoad, Name: "g"}, {Op: api.IStore, A: 1, Name: "sixteen bytes \x00\xff"}, {Op: api.ICall, Name: "f"}, {Op: api.ICall, Name: sixteen, Args: []int{3, 0}},
				}, End: api.Term{Kind: api.TJump, To: 2, Args: []int{4, 0}}},
				{Params: 2, Ins: []api.Inst{{Op: api.IRead}, {Op: api.IWrite, A: 2}, konst(1<<64 - 1)}, End: ret(4)},
			}},
			{Name: "f", Bind: api.BWeak},
			{Name: "away", Bind: api.BStrong, Params: 6},
			seven("main"),
		},
		Globs: []api.Glob{
			{Name: "g", Bind: api.BLocal, Here: true, Init: 1 << 63},
			{Name: "sixteen bytes \x00\xff", Bind: api.BWeak},
			{Name: "\x00", Bind: api.BStrong, Here: true},
		},
	}
}

// full is a module with as many functions, globals, blocks, instructions and values handed on as may be.
func full() api.Module {
	six := []int{0, 1, 5, 6, 37, 20}
	f := api.Func{Name: "f0", Bind: api.BStrong, Params: 6}
	for at := range 16 {
		b := api.Block{Params: 6, End: api.Term{Kind: api.TIf, A: 37, To: 15 - at, Args: six, Else: at, Elses: six}}
		for k := range 32 {
			b.Ins = append(b.Ins, api.Inst{Op: api.IAdd, A: k + 5, B: 5})
		}
		b.Ins[31] = api.Inst{Op: api.ICall, Name: "f15", Args: []int{36, 0, 0, 0, 0, 1}}
		f.Blocks = append(f.Blocks, b)
	}
	m := api.Module{Funcs: []api.Func{f}}
	for n := range 16 {
		m.Globs = append(m.Globs, api.Glob{Name: fmt.Sprint("g", n), Bind: api.BLocal, Here: true, Init: uint64(n)})
		if n > 0 {
			m.Funcs = append(m.Funcs, api.Func{Name: fmt.Sprint("f", n), Bind: api.BWeak, Params: 6})
		}
	}
	return m
}

// sized is a module that is right, of so many bytes: calls, of 25 bytes each, and globals, whose Inits are as long as it takes.
func sized(t *testing.T, n int) api.Module {
	t.Helper()
	var m api.Module
	for k := range 8 {
		f := api.Func{Name: fmt.Sprint("f", k), Bind: api.BStrong, Params: 6, Blocks: make([]api.Block, 16)}
		for at := range f.Blocks {
			f.Blocks[at] = api.Block{Params: 6, End: ret(5)}
		}
		m.Funcs = append(m.Funcs, f)
	}
	m.Funcs[0].Name = sixteen
	for k := range 16 {
		m.Globs = append(m.Globs, api.Glob{Name: fmt.Sprint("g", k), Bind: api.BStrong, Here: true})
	}
	left := n - len(laid(m))
	for k := 0; left >= 25 && k < 8*16*32; k++ {
		b := &m.Funcs[k/512].Blocks[k/32%16]
		b.Ins = append(b.Ins, api.Inst{Op: api.ICall, Name: sixteen, Args: []int{0, 1, 2, 3, 4, 5}})
		left -= 25
	}
	for k := 0; left > 0; k++ {
		more := min(left, 9)
		m.Globs[k].Init = 1 << (7 * more)
		left -= more
	}
	if len(laid(m)) != n {
		t.Fatalf("%d bytes, not %d", len(laid(m)), n)
	}
	return m
}

// modules are some that are right: ordinary ones, and the edges.
func modules() map[string]api.Module {
	all := map[string]api.Module{
		"nothing":          {},
		"no blocks":        {Funcs: []api.Func{{Name: "f", Bind: api.BWeak, Params: 3}}},
		"the shortest":     {Funcs: []api.Func{{Name: "f", Bind: 1, Blocks: []api.Block{{End: api.Term{Kind: api.TJump}}}}}},
		"main":             {Funcs: []api.Func{seven("main")}},
		"globals alone":    {Globs: each().Globs},
		"each Op and Kind": each(),
		"as much as may":   full(),
		"names of no text": {Funcs: []api.Func{seven("\x00"), seven("\xff\x80"), seven("MIR1")}},
		"names of length":  {Funcs: []api.Func{seven("n"), seven(strings.Repeat("n", 15)), seven(strings.Repeat("n", 16))}},
	}
	for _, v := range edges() {
		f := seven("main")
		f.Blocks[0].Ins[0].K = v
		all[fmt.Sprint("K ", v)] = api.Module{Funcs: []api.Func{f}}
		all[fmt.Sprint("Init ", v)] = api.Module{Globs: []api.Glob{{Name: "g", Bind: 2, Here: true, Init: v}}}
	}
	r := random(6)
	for n := range 300 {
		all[fmt.Sprint("random ", n)] = r.module()
	}
	return all
}

// some are so many values below n.
func (r *random) some(n, many int) []int {
	var l []int
	for range many {
		l = append(l, r.below(n))
	}
	return l
}

// name is one of 1 to 14 bytes of any kind, behind what tells it from others.
func (r *random) name(own string) string {
	b := []byte(own)
	for range r.below(15) {
		b = append(b, byte(r.below(256)))
	}
	return string(b)
}

// inst is an instruction of that Op that is right among n values, n of 1 at least, in a module of these functions and globals.
func (r *random) inst(op, n int, m api.Module) api.Inst {
	i := api.Inst{Op: op}
	x := fieldsOf(op)
	if x.k {
		i.K = r.wide()
	}
	if x.a {
		i.A = r.below(n)
	}
	if x.b {
		i.B = r.below(n)
	}
	if x.name {
		i.Name = m.Globs[r.below(len(m.Globs))].Name
	}
	if x.args {
		f := m.Funcs[r.below(len(m.Funcs))]
		i.Name, i.Args = f.Name, r.some(n, f.Params)
	}
	return i
}

// module is one that is right.
func (r *random) module() api.Module {
	var m api.Module
	for n := range 1 + r.below(4) {
		g := api.Glob{Name: r.name(fmt.Sprint("g", n)), Bind: 1 + r.below(3), Here: true, Init: r.wide()}
		if g.Bind != api.BLocal && r.below(2) == 0 {
			g.Here, g.Init = false, 0
		}
		m.Globs = append(m.Globs, g)
	}
	for n := range 1 + r.below(4) {
		m.Funcs = append(m.Funcs, api.Func{Name: r.name(fmt.Sprint("f", n)), Bind: 1 + r.below(3), Params: r.below(7)})
	}
	for at := range m.Funcs {
		f := &m.Funcs[at]
		if f.Bind == api.BLocal || r.below(4) > 0 {
			f.Blocks = r.blocks(f.Params, m)
		}
	}
	return m
}

// blocks are those of a function with so many Params.
func (r *random) blocks(params int, m api.Module) []api.Block {
	l := make([]api.Block, 1+r.below(4))
	for at := range l {
		l[at].Params = r.below(7)
	}
	l[0].Params = params
	for at := range l {
		b := &l[at]
		b.Ins = append(b.Ins, konst(r.wide()))
		for range r.below(8) {
			b.Ins = append(b.Ins, r.inst(1+r.below(16), b.Params+len(b.Ins), m))
		}
		n := b.Params + len(b.Ins)
		b.End.Kind = 1 + r.below(3)
		if b.End.Kind != api.TRet {
			b.End.To = r.below(len(l))
			b.End.Args = r.some(n, l[b.End.To].Params)
		}
		if b.End.Kind != api.TJump {
			b.End.A = r.below(n)
		}
		if b.End.Kind == api.TIf {
			b.End.Else = r.below(len(l))
			b.End.Elses = r.some(n, l[b.End.Else].Params)
		}
	}
	return l
}

// told is all that stands in a module, as a text of plain letters; it's of no account whether a list without elements is nil.
func told(m api.Module) string {
	return fmt.Sprintf("%+q", fmt.Sprintf("%+v", m))
}

// expectBytes: Bytes answers that, and leaves what it was handed as it was.
func expectBytes(t *testing.T, why string, m api.Module, want string, wantE api.Errno) {
	t.Helper()
	before := told(m)
	for range 2 { // the second one shows what the first one kept
		if s, e := bit.Bytes(m); s != want || e != wantE {
			t.Errorf("%s: Bytes answers %.300q, %d, not %.300q, %d", why, s, e, want, wantE)
		}
	}
	if told(m) != before {
		t.Errorf("%s: Bytes wrote into what it was handed", why)
	}
}

// expectTake: Take answers that module.
func expectTake(t *testing.T, why, s string, want api.Module) {
	t.Helper()
	if m, e := bit.Take(s); told(m) != told(want) || e != api.OK {
		t.Errorf("%s: Take of %.300q answers %.300s, %d, not %.300s", why, s, told(m), e, told(want))
	}
}

// expectRefused: Take answers that error, and nothing else.
func expectRefused(t *testing.T, why, s string, want api.Errno) {
	t.Helper()
	if m, e := bit.Take(s); e != want || m.Funcs != nil || m.Globs != nil {
		t.Errorf("%s: Take of %.300q answers %.300s, %d, not %d", why, s, told(m), e, want)
	}
}
