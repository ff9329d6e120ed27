package bit_test

import (
	"fmt"
	"testing"

	"marline/api"
	"marline/bit"
	"marline/ir"
)

// TestRound: P6.3, a module that may be written is taken as it was.
func TestRound(t *testing.T) {
	all := modules()
	all["as long as may be"] = sized(t, 65535)
	for why, m := range all {
		s, e := bit.Bytes(m)
		if e != api.OK {
			t.Errorf("%s: Bytes answers %d", why, e)
			continue
		}
		if k, e := bit.Take(s); e != api.OK || !ir.Same(k, m) {
			t.Errorf("%s: taken: %.300s, %d, not %.300s", why, told(k), e, told(m))
		}
	}
}

// TestBeginnings: P6.3, no beginning of a module's bytes is taken, nor they with one more.
func TestBeginnings(t *testing.T) {
	for why, m := range modules() {
		s, _ := bit.Bytes(m)
		for n := range len(s) {
			want := api.ErrMore
			if n < 4 {
				want = api.ErrForm
			}
			expectRefused(t, fmt.Sprint(why, ", so many bytes: ", n), s[:n], want)
		}
		for b := range 256 {
			expectRefused(t, fmt.Sprint(why, ", and the byte ", b), s+string([]byte{byte(b)}), api.ErrForm)
		}
	}
}

// stop is an error at which taking ends.
type stop api.Errno

// slow takes a module by the chapter's words, and panics with what it refuses.
type slow struct {
	s string
}

func (w *slow) wide() uint64 {
	v, rest, e := numOf(w.s)
	if e != api.OK {
		panic(stop(e))
	}
	w.s = rest
	return v
}

func (w *slow) num() int {
	v := w.wide()
	if v>>32 != 0 {
		panic(stop(api.ErrBig))
	}
	return int(v)
}

func (w *slow) oneOf(least, most int) int {
	v := w.num()
	if v < least || v > most {
		panic(stop(api.ErrForm))
	}
	return v
}

func (w *slow) many(limit int) int {
	n := w.num()
	if n > limit {
		panic(stop(api.ErrBig))
	}
	return n
}

func (w *slow) text() string {
	n := w.many(16)
	if len(w.s) < n {
		panic(stop(api.ErrMore))
	}
	s := w.s[:n]
	w.s = w.s[n:]
	return s
}

func (w *slow) row() []int {
	var l []int
	for n := w.many(6); n > 0; n-- {
		l = append(l, w.num())
	}
	return l
}

func (w *slow) inst() api.Inst {
	i := api.Inst{Op: w.oneOf(1, 16)}
	x := fieldsOf(i.Op)
	if x.k {
		i.K = w.wide()
	}
	if x.a {
		i.A = w.num()
	}
	if x.b {
		i.B = w.num()
	}
	if x.name {
		i.Name = w.text()
	}
	if x.args {
		i.Args = w.row()
	}
	return i
}

func (w *slow) end() api.Term {
	e := api.Term{Kind: w.oneOf(1, 3)}
	if e.Kind != api.TJump {
		e.A = w.num()
	}
	if e.Kind != api.TRet {
		e.To = w.num()
		e.Args = w.row()
	}
	if e.Kind == api.TIf {
		e.Else = w.num()
		e.Elses = w.row()
	}
	return e
}

func (w *slow) module() api.Module {
	var m api.Module
	for funcs := w.many(16); funcs > 0; funcs-- {
		f := api.Func{Name: w.text(), Bind: w.num(), Params: w.num()}
		for blocks := w.many(16); blocks > 0; blocks-- {
			b := api.Block{Params: w.num()}
			for ins := w.many(32); ins > 0; ins-- {
				b.Ins = append(b.Ins, w.inst())
			}
			b.End = w.end()
			f.Blocks = append(f.Blocks, b)
		}
		m.Funcs = append(m.Funcs, f)
	}
	for globs := w.many(16); globs > 0; globs-- {
		m.Globs = append(m.Globs, api.Glob{Name: w.text(), Bind: w.num(), Here: w.oneOf(0, 1) == 1, Init: w.wide()})
	}
	return m
}

// slowly is what Take is to answer.
func slowly(s string) (m api.Module, e api.Errno) {
	defer func() {
		if x, stopped := recover().(stop); stopped {
			m, e = api.Module{}, api.Errno(x)
		}
	}()
	if len(s) < 4 || s[:4] != "MIR1" {
		panic(stop(api.ErrForm))
	}
	w := slow{s: s[4:]}
	m = w.module()
	switch e := ir.Check(m); {
	case w.s != "":
		panic(stop(api.ErrForm))
	case e != api.OK:
		panic(stop(e))
	case len(s) > 65535:
		panic(stop(api.ErrBig))
	}
	return m, api.OK
}

// expectSlowly: Take answers what it is to answer; what is taken is written by the same bytes.
func expectSlowly(t *testing.T, s string) api.Errno {
	t.Helper()
	want, wantE := slowly(s)
	m, e := bit.Take(s)
	if e != wantE || !ir.Same(m, want) {
		t.Errorf("Take of %q answers %.300s, %d, not %.300s, %d", s, told(m), e, told(want), wantE)
	}
	if e == api.OK {
		if again, e := bit.Bytes(m); again != s || e != api.OK {
			t.Errorf("Bytes of what is taken of %q: %q, %d", s, again, e)
		}
	}
	return e
}

// TestChanged: P6.2 and P6.3, a module's bytes with any one of them another one, left out, or put in.
func TestChanged(t *testing.T) {
	count := map[api.Errno]int{}
	s := laid(each())
	for at := range s {
		for b := range 256 {
			one := string([]byte{byte(b)})
			count[expectSlowly(t, s[:at]+one+s[at+1:])]++
			count[expectSlowly(t, s[:at]+one+s[at:])]++
		}
		count[expectSlowly(t, s[:at]+s[at+1:])]++
	}
	for _, e := range []api.Errno{api.OK, api.ErrMore, api.ErrForm, api.ErrBig, api.ErrShape, api.ErrTwice, api.ErrNone, api.ErrArg} {
		if count[e] == 0 {
			t.Errorf("none of these answers %d", e)
		}
	}
}

// TestRandom: P6.2 and P6.3, random modules' bytes with some of them changed, and random bytes.
func TestRandom(t *testing.T) {
	r := random(63)
	taken := 0
	for range 4000 {
		s := []byte(laid(r.module()))
		for range r.below(4) {
			s[4+r.below(len(s)-4)] = byte(r.below(20))
		}
		if expectSlowly(t, string(s)) == api.OK {
			taken++
		}
	}
	if taken < 100 {
		t.Errorf("%d of these are taken", taken)
	}
	for range 20000 {
		s := []byte("MIR1")
		for range r.below(40) {
			s = append(s, byte(r.below(4)*r.below(64)))
		}
		expectSlowly(t, string(s))
	}
}
