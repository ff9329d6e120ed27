package bit_test

import (
	"fmt"
	"slices"
	"strings"
	"testing"

	"marline/api"
	"marline/bit"
	"marline/ir"
)

// high are so many bytes with the highest bit set.
func high(n int) string {
	return strings.Repeat("\xff", n)
}

// above is the least number above 2^64 - 1.
const above = "\x80\x80\x80\x80\x80\x80\x80\x80\x80\x02"

// TestTake: P6.2, modules of bytes that are written out.
func TestTake(t *testing.T) {
	for _, x := range written() {
		expectTake(t, x.why, x.s, x.m)
	}
}

// TestTakeAll: P6.2, modules of all sorts.
func TestTakeAll(t *testing.T) {
	for why, m := range modules() {
		expectTake(t, why, laid(m), m)
	}
}

// TestTakeBegin: P6.2, what doesn't begin with MIR1, or with a part of it alone.
func TestTakeBegin(t *testing.T) {
	s := laid(each())[4:]
	for _, begin := range []string{"", "M", "MI", "MIR", "MIR2", "MIR0", "mir1", "NIR1", "MjR1", "MIr1", "MIR", "IR1", " MIR1", "\x00MIR1", "MMIR1", "\x04MIR1"} {
		expectRefused(t, "alone", begin, api.ErrForm)
		expectRefused(t, "ahead of the rest", begin+s, api.ErrForm)
	}
	expectRefused(t, "alone", "MIR1", api.ErrMore)
	expectRefused(t, "a row that is all there is", "MIR1\x00", api.ErrMore)
	expectRefused(t, "too much behind another beginning", "XIR1"+strings.Repeat("\xff", 70000), api.ErrForm)
}

// TestTakeCut: P6.2, a module that ends ahead of a part, or within it.
func TestTakeCut(t *testing.T) {
	for why, m := range map[string]api.Module{"each": each(), "full": full(), "nothing": {}} {
		p := partsOf(m)
		for k := range p {
			ahead := p[:k].joined()
			for n := range len(p[k].s) {
				want := api.ErrMore
				if k == 0 {
					want = api.ErrForm
				}
				expectRefused(t, fmt.Sprint(why, ", part ", k, ", so many bytes of it: ", n), ahead+p[k].s[:n], want)
			}
		}
	}
}

// other is what may stand in the place of a part, and what Take answers then; last: where nothing stands behind it.
type other struct {
	s    string
	e    api.Errno
	last bool
}

// others are those of a part, by the chapter's words.
func others(p part) []other {
	if p.kind == head {
		return nil
	}
	if p.kind == text {
		return []other{{p.s[1:], api.ErrMore, true}, {"", api.ErrMore, true}}
	}
	n := len(p.s)
	again := p.s[:n-1] + string([]byte{p.s[n-1] | 0x80}) + "\x00" // the same number, with a byte that it could be without
	if n == 10 {
		again = above
	}
	l := []other{
		{"", api.ErrMore, true}, {"\x80", api.ErrMore, true}, {high(9), api.ErrMore, true}, {high(10), api.ErrForm, true},
		{"\x80\x00", api.ErrForm, false}, {again, api.ErrForm, false}, {high(10), api.ErrForm, false}, {high(11), api.ErrForm, false}, {high(10) + "\x01", api.ErrForm, false},
		{above, api.ErrForm, false}, {high(9) + "\x02", api.ErrForm, false}, {high(9) + "\x00", api.ErrForm, false}, {high(8) + "\x00", api.ErrForm, false},
	}
	if p.kind != wide {
		for _, v := range []uint64{1 << 32, 1<<32 + p.v, 1<<33 - 1, 1 << 63, 1<<64 - 1} {
			l = append(l, other{num(v), api.ErrBig, false}, other{num(v), api.ErrBig, true})
		}
	}
	is := func(e api.Errno, last bool, all ...uint64) {
		for _, v := range all {
			l = append(l, other{num(v), e, last})
		}
	}
	switch p.kind {
	case plain: // a Bind, a Params, a value or a block that can't be
		is(api.ErrShape, false, 1<<32-1, 1<<31, 1<<31-1, 100)
	case count:
		for _, last := range []bool{false, true} {
			is(api.ErrBig, last, p.limit+1, p.limit+2, 127, 128, 1<<31, 1<<32-1)
		}
		is(api.ErrMore, true, p.limit, p.limit-1, 1)
	case size:
		for _, last := range []bool{false, true} {
			is(api.ErrBig, last, 17, 18, 127, 128, 1<<31, 1<<32-1)
		}
		is(api.ErrMore, true, 16, 15, 1)
		l = append(l, other{"\x10" + strings.Repeat("n", 15), api.ErrMore, true}, other{"\x02n", api.ErrMore, true}, other{"\x11" + strings.Repeat("n", 17), api.ErrBig, true})
	case op:
		is(api.ErrForm, false, 0, 17, 18, 128, 1<<32-1)
		is(api.ErrForm, true, 0, 17, 1<<32-1)
	case ends:
		is(api.ErrForm, false, 0, 4, 5, 128, 1<<32-1)
		is(api.ErrForm, true, 0, 4, 1<<32-1)
	case here:
		is(api.ErrForm, false, 2, 3, 128, 1<<32-1)
		is(api.ErrForm, true, 2, 1<<32-1)
	}
	return l
}

// TestTakeParts: P6.2, each part of a module spoilt, in each way.
func TestTakeParts(t *testing.T) {
	p := partsOf(each())
	seen := map[kind]int{}
	for k := range p {
		seen[p[k].kind]++
		ahead, after := p[:k].joined(), p[k+1:].joined()
		for _, x := range others(p[k]) {
			s := ahead + x.s + after
			if x.last {
				s = ahead + x.s
			}
			expectRefused(t, fmt.Sprintf("part %d, %+v, is %q", k, p[k], x.s), s, x.e)
		}
	}
	for k := head; k <= here; k++ {
		if seen[k] == 0 {
			t.Errorf("no part of the kind %d", k)
		}
	}
}

// TestTakeOrder: P6.2 and R1, of two parts that are spoilt the first one's error is told; and that of a part ahead of Check's.
func TestTakeOrder(t *testing.T) {
	p := partsOf(each())
	for at := range p {
		for _, first := range others(p[at]) {
			if first.last {
				continue
			}
			for then := at + 1; then < len(p); then += 7 {
				for _, second := range others(p[then]) {
					if second.last || second.e == first.e {
						continue
					}
					want := first.e
					if want == api.ErrShape { // Check's, which all parts are ahead of
						want = second.e
					}
					q := slices.Clone(p)
					q[at].s, q[then].s = first.s, second.s
					expectRefused(t, fmt.Sprintf("part %d is %q, part %d is %q", at, first.s, then, second.s), q.joined(), want)
				}
			}
		}
	}
}

// TestTakeWide: P6.2, a K and an Init of any size are taken.
func TestTakeWide(t *testing.T) {
	for _, v := range edges() {
		m := each()
		m.Funcs[0].Blocks[2].Ins[2].K = v
		m.Globs[0].Init = v
		expectTake(t, fmt.Sprint(v), laid(m), m)
		m.Globs[1].Init = v
		if v > 0 {
			expectRefused(t, fmt.Sprint("Init ", v, " of one that isn't here"), laid(m), api.ErrShape)
		}
	}
}

// TestTakeLimits: P6.2, each count at its limit, and above it.
func TestTakeLimits(t *testing.T) {
	m := full()
	expectTake(t, "at the limits", laid(m), m)
	for why, more := range map[string]func(*api.Module){
		"functions":    func(m *api.Module) { m.Funcs = append(m.Funcs, seven("more")) },
		"globals":      func(m *api.Module) { m.Globs = append(m.Globs, api.Glob{Name: "more", Bind: 2}) },
		"blocks":       func(m *api.Module) { f := &m.Funcs[0]; f.Blocks = append(f.Blocks, f.Blocks[0]) },
		"instructions": func(m *api.Module) { b := &m.Funcs[0].Blocks[5]; b.Ins = append(b.Ins, konst(1)) },
		"Args":         func(m *api.Module) { i := &m.Funcs[0].Blocks[5].Ins[31]; i.Args = append(slices.Clone(i.Args), 0) },
		"an end's": func(m *api.Module) {
			m.Funcs[0].Blocks[5].End = api.Term{Kind: api.TJump, Args: make([]int, 7)}
		},
		"Args of TIf": func(m *api.Module) { e := &m.Funcs[0].Blocks[5].End; e.Args = append(slices.Clone(e.Args), 0) },
		"Elses":       func(m *api.Module) { e := &m.Funcs[0].Blocks[5].End; e.Elses = append(slices.Clone(e.Elses), 0) },
		"a name":      func(m *api.Module) { m.Funcs[15].Name = strings.Repeat("n", 17) },
		"a global's":  func(m *api.Module) { m.Globs[15].Name = strings.Repeat("n", 17) },
		"a call's":    func(m *api.Module) { m.Funcs[0].Blocks[5].Ins[31].Name = strings.Repeat("n", 17) },
	} {
		m := full()
		more(&m)
		expectRefused(t, why+", one more", laid(m), api.ErrBig)
	}
}

// TestTakeLeft: P6.2, bytes that are left behind a module, right or not.
func TestTakeLeft(t *testing.T) {
	wrong := each()
	wrong.Funcs[3].Bind = 0
	for _, m := range []api.Module{{}, each(), full(), wrong, sized(t, 65535), sized(t, 65536)} {
		for _, more := range behind[1:] {
			expectRefused(t, "left", laid(m)+more, api.ErrForm)
		}
		expectRefused(t, "a second one", laid(m)+laid(m), api.ErrForm)
	}
}

// TestTakeCheck: P6.2, each error of Check that can come of bytes; ErrForm is told ahead of it, if bytes are left.
func TestTakeCheck(t *testing.T) {
	for why, c := range map[string]struct {
		s string
		e api.Errno
	}{
		"a function's Name of no byte": {"MIR1\x01\x00\x02\x00\x00\x00", api.ErrShape},
		"a global's Name of no byte":   {"MIR1\x00\x01\x00\x02\x01\x00", api.ErrShape},
		"a load's Name of no byte":     {"MIR1\x01\x01f\x02\x00\x01\x00\x01\x0c\x00\x03\x00\x00", api.ErrShape},
		"a local function of no block": {"MIR1\x01\x01f\x01\x00\x00\x00", api.ErrShape},
		"Bind 0":                       {"MIR1\x01\x01f\x00\x00\x00\x00", api.ErrShape},
		"a local global elsewhere":     {"MIR1\x00\x01\x01g\x01\x00\x00", api.ErrShape},
		"an Init elsewhere":            {"MIR1\x00\x01\x01g\x02\x00\x01", api.ErrShape},
		"a value that isn't given":     {"MIR1\x01\x01f\x02\x00\x01\x00\x00\x03\x00\x00", api.ErrShape},
		"a block that isn't there":     {"MIR1\x01\x01f\x02\x00\x01\x00\x00\x01\x01\x00\x00", api.ErrShape},
		"two of one name":              {"MIR1\x01\x01n\x02\x00\x00\x01\x01n\x02\x00\x00", api.ErrTwice},
		"a load of nothing":            {"MIR1\x01\x01f\x02\x00\x01\x00\x01\x0c\x01g\x03\x00\x00", api.ErrNone},
		"a call with one too many":     {"MIR1\x01\x01f\x02\x00\x01\x00\x02\x0f\x0e\x01f\x01\x00\x03\x00\x00", api.ErrArg},
	} {
		expectRefused(t, why, c.s, c.e)
		expectRefused(t, why+", and a byte", c.s+"\x00", api.ErrForm)
	}
}

// TestTakeSpoilt: P6.2, what isn't right, laid part by part.
func TestTakeSpoilt(t *testing.T) {
	for _, c := range spoilt {
		m := each()
		c.spoil(&m)
		if c.take == api.OK {
			expectTake(t, c.why, laid(m), each())
		} else {
			expectRefused(t, c.why, laid(m), c.take)
		}
	}
}

// TestTakeBig: P6.2, as many bytes as MaxBytes, and more, which is refused last.
func TestTakeBig(t *testing.T) {
	for _, n := range []int{65534, 65535} {
		m := sized(t, n)
		expectTake(t, fmt.Sprint(n), laid(m), m)
	}
	for _, n := range []int{65536, 65537, 80000} {
		m := sized(t, n)
		expectRefused(t, fmt.Sprint(n), laid(m), api.ErrBig)
		expectRefused(t, fmt.Sprint(n, ", cut off"), laid(m)[:n-1], api.ErrMore)
		expectRefused(t, fmt.Sprint(n, ", and one more"), laid(m)+"\x00", api.ErrForm)
		m.Funcs[7].Bind = 0
		expectRefused(t, fmt.Sprint(n, ", not right"), laid(m), api.ErrShape)
		m.Funcs[7].Bind, m.Funcs[7].Name = 1, sixteen
		expectRefused(t, fmt.Sprint(n, ", two of one name"), laid(m), api.ErrTwice)
		m.Funcs[7].Name, m.Funcs[0].Name = "f7", "f0"
		expectRefused(t, fmt.Sprint(n, ", a name that nothing has"), laid(m), api.ErrNone)
		m.Funcs[0].Name = sixteen
		m.Funcs[0].Blocks[9].Ins[9].Args = nil
		expectRefused(t, fmt.Sprint(n, ", a call with none"), laid(m), api.ErrArg)
	}
	expectRefused(t, "bytes that are no module", "MIR1\x00\x00"+strings.Repeat("\x00", 70000), api.ErrForm)
	expectRefused(t, "bytes that have no form", "MIR1"+strings.Repeat("\xff", 70000), api.ErrForm)
}

// TestTakeOwn: P6.2, R3 and R4, what was taken, and is written into, changes nothing that is taken later.
func TestTakeOwn(t *testing.T) {
	s := laid(each())
	m, _ := bit.Take(s)
	other, _ := bit.Take(s)
	m.Funcs[0].Name = "changed"
	m.Funcs[0].Blocks[0].Ins[0].A = 9
	m.Funcs[0].Blocks[1].Ins[3].Args[0] = 9
	m.Funcs[0].Blocks[0].End.Args[0] = 9
	m.Funcs[0].Blocks[0].End.Elses[0] = 9
	m.Globs[0].Init = 9
	_ = append(m.Funcs[0].Blocks[0].End.Args[:1:1], 7)
	if !ir.Same(other, each()) {
		t.Error("what was taken twice isn't two")
	}
	expectTake(t, "again", s, each())
}
