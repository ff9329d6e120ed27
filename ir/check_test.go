package ir_test

import (
	"fmt"
	"math"
	"strings"
	"testing"

	"marline/api"
	"marline/ir"
)

// full is a module with as many functions and globals as may be.
func full() api.Module {
	var m api.Module
	for n := range 16 {
		m.Funcs = append(m.Funcs, seven(fmt.Sprint("f", n)))
		m.Globs = append(m.Globs, api.Glob{Name: fmt.Sprint("g", n), Bind: api.BLocal, Here: true})
	}
	return m
}

// TestCheck: P5.2, modules that are right.
func TestCheck(t *testing.T) {
	for why, m := range map[string]api.Module{
		"nothing":          {},
		"empty lists":      {Funcs: []api.Func{}, Globs: []api.Glob{}},
		"the document's":   {Funcs: []api.Func{seven("main")}},
		"no main":          {Funcs: []api.Func{seven("f")}},
		"globals alone":    {Globs: []api.Glob{{Name: "g", Bind: api.BStrong}}},
		"all sorts":        whole(),
		"as many as may":   full(),
		"names that begin": {Funcs: []api.Func{seven("a"), seven("aa")}, Globs: []api.Glob{{Name: "aaa", Bind: api.BWeak}, {Name: "A", Bind: api.BWeak}, {Name: "a\x00", Bind: api.BWeak}}},
	} {
		expectCheck(t, why, m, api.OK)
	}
	for _, x := range goodFuncs() {
		names := map[string]bool{x.f.Name: true}
		m := api.Module{Funcs: []api.Func{x.f}}
		for _, b := range x.f.Blocks { // what it names is given to it
			for _, i := range b.Ins {
				if i.Name == "" || names[i.Name] {
					continue
				}
				names[i.Name] = true
				if i.Op == api.ICall {
					m.Funcs = append(m.Funcs, api.Func{Name: i.Name, Bind: api.BStrong, Params: len(i.Args)})
				} else {
					m.Globs = append(m.Globs, api.Glob{Name: i.Name, Bind: api.BStrong})
				}
			}
		}
		expectCheck(t, x.why, m, api.OK)
	}
}

// TestCheckBig: P5.2, at most MaxFuncs functions and MaxGlobs globals.
func TestCheckBig(t *testing.T) {
	for _, n := range []int{0, 1, 15, 16, 17, 18, 1000} {
		var funcs, globs api.Module
		for k := range n {
			funcs.Funcs = append(funcs.Funcs, seven(fmt.Sprint("f", k)))
			globs.Globs = append(globs.Globs, api.Glob{Name: fmt.Sprint("g", k), Bind: api.BStrong})
		}
		want := api.OK
		if n > 16 {
			want = api.ErrBig
		}
		expectCheck(t, fmt.Sprint(n, " functions"), funcs, want)
		expectCheck(t, fmt.Sprint(n, " globals"), globs, want)
		funcs.Globs, globs.Funcs = full().Globs, full().Funcs
		for k := range funcs.Globs {
			funcs.Globs[k].Name = fmt.Sprint("other", k)
			globs.Funcs[k].Name = fmt.Sprint("other", k)
		}
		expectCheck(t, fmt.Sprint(n, " functions and 16 globals"), funcs, want)
		expectCheck(t, fmt.Sprint(n, " globals and 16 functions"), globs, want)
	}
}

// TestCheckFunc: P5.2, a function that isn't right, wherever it stands.
func TestCheckFunc(t *testing.T) {
	for why, spoil := range map[string]func(*api.Func){
		"no Name":              func(f *api.Func) { f.Name = "" },
		"a long Name":          func(f *api.Func) { f.Name = strings.Repeat("n", 17) },
		"Bind 0":               func(f *api.Func) { f.Bind = 0 },
		"Bind 4":               func(f *api.Func) { f.Bind = 4 },
		"Params below 0":       func(f *api.Func) { f.Params, f.Blocks[0].Params = -1, -1 },
		"Params of seven":      func(f *api.Func) { f.Params, f.Blocks[0].Params = 7, 7 },
		"Params not the first": func(f *api.Func) { f.Params++ },
		"no blocks, local":     func(f *api.Func) { f.Bind, f.Blocks = api.BLocal, nil },
		"17 blocks": func(f *api.Func) {
			for range 16 {
				f.Blocks = append(f.Blocks, f.Blocks[0])
			}
		},
		"33 instructions":     func(f *api.Func) { f.Blocks[0].Ins = make33() },
		"Op 0":                func(f *api.Func) { f.Blocks[0].Ins[0].Op = 0 },
		"Op 17":               func(f *api.Func) { f.Blocks[0].Ins[0].Op = 17 },
		"a value used ahead":  func(f *api.Func) { f.Blocks[0].Ins[0] = api.Inst{Op: api.IWrite} },
		"an end of no kind":   func(f *api.Func) { f.Blocks[0].End = api.Term{} },
		"an end to no block":  func(f *api.Func) { f.Blocks[0].End = jump(1) },
		"an end of no value":  func(f *api.Func) { f.Blocks[0].End = ret(1) },
		"the last block's":    func(f *api.Func) { f.Blocks = append(f.Blocks, api.Block{}) },
		"a block of 7 Params": func(f *api.Func) { f.Blocks = append(f.Blocks, api.Block{Params: 7, End: ret(0)}) },
	} {
		for _, at := range []int{0, 7, 15} {
			m := full()
			spoil(&m.Funcs[at])
			expectCheck(t, fmt.Sprint(why, ", function ", at), m, api.ErrShape)
		}
	}
}

// make33 are as many instructions, and one more.
func make33() []api.Inst {
	l := make([]api.Inst, 33)
	for k := range l {
		l[k] = konst(1)
	}
	return l
}

// TestCheckGlob: P5.2, each way in which a global isn't right, wherever it stands, and those in which it is.
func TestCheckGlob(t *testing.T) {
	for _, bind := range []int{math.MinInt, -1, 0, 1, 2, 3, 4, 1<<32 + 1, math.MaxInt} {
		for _, init := range []uint64{0, 1, 1 << 32, math.MaxUint64} {
			for _, here := range []bool{false, true} {
				for _, n := range []int{0, 1, 16, 17} {
					g := api.Glob{Name: strings.Repeat("n", n), Bind: bind, Here: here, Init: init}
					want := api.ErrShape
					if n >= 1 && n <= 16 && (bind == 1 && here || (bind == 2 || bind == 3) && (here || init == 0)) {
						want = api.OK
					}
					for _, at := range []int{0, 8, 15} {
						m := full()
						m.Globs[at] = g
						expectCheck(t, fmt.Sprintf("global %d is %+v", at, g), m, want)
					}
				}
			}
		}
	}
}

// TestCheckTwice: P5.2, two of one Name: functions, globals, one of each, whether they are here, local or used.
func TestCheckTwice(t *testing.T) {
	for at := range 16 {
		for other := range 16 {
			m := full()
			m.Funcs[at].Name = m.Globs[other].Name
			expectCheck(t, fmt.Sprint("function ", at, " and global ", other), m, api.ErrTwice)
			if at == other {
				continue
			}
			m = full()
			m.Funcs[at].Name = m.Funcs[other].Name
			expectCheck(t, fmt.Sprint("functions ", at, " and ", other), m, api.ErrTwice)
			m = full()
			m.Globs[at].Name = m.Globs[other].Name
			expectCheck(t, fmt.Sprint("globals ", at, " and ", other), m, api.ErrTwice)
		}
	}
	for one := 1; one <= 3; one++ {
		for two := 1; two <= 3; two++ {
			f, g := seven("n"), seven("n")
			f.Bind, g.Bind = one, two
			x, y := api.Glob{Name: "n", Bind: one, Here: true, Init: 1}, api.Glob{Name: "n", Bind: two, Here: true}
			why := fmt.Sprint("Bind ", one, " and ", two)
			expectCheck(t, why+", functions", api.Module{Funcs: []api.Func{f, g}}, api.ErrTwice)
			expectCheck(t, why+", globals", api.Module{Globs: []api.Glob{x, y}}, api.ErrTwice)
			expectCheck(t, why+", one of each", api.Module{Funcs: []api.Func{f}, Globs: []api.Glob{y}}, api.ErrTwice)
		}
	}
	away := api.Module{Funcs: []api.Func{seven("n"), {Name: "n", Bind: api.BStrong}}}
	expectCheck(t, "one that is elsewhere", away, api.ErrTwice)
	away = api.Module{Globs: []api.Glob{{Name: "n", Bind: api.BWeak}, {Name: "n", Bind: api.BStrong, Here: true}}}
	expectCheck(t, "a global that is elsewhere", away, api.ErrTwice)
}

// TestCheckNone: P5.2, names that no function, or no global, has.
func TestCheckNone(t *testing.T) {
	for _, c := range []struct {
		why  string
		i    api.Inst
		want api.Errno
	}{
		{"a call of a function", api.Inst{Op: api.ICall, Name: "seven"}, api.OK},
		{"a call of one that is elsewhere", api.Inst{Op: api.ICall, Name: "weak"}, api.OK},
		{"a load of a global", api.Inst{Op: api.ILoad, Name: "here"}, api.OK},
		{"a load of one that is elsewhere", api.Inst{Op: api.ILoad, Name: "weakly_away"}, api.OK},
		{"a store of a global", api.Inst{Op: api.IStore, Name: "\x00"}, api.OK},
		{"a store of one that is elsewhere", api.Inst{Op: api.IStore, Name: "away"}, api.OK},
		{"a call of nobody", api.Inst{Op: api.ICall, Name: "nobody"}, api.ErrNone},
		{"a call of a global", api.Inst{Op: api.ICall, Name: "here"}, api.ErrNone},
		{"a call of a global that is elsewhere", api.Inst{Op: api.ICall, Name: "away"}, api.ErrNone},
		{"a call of a global with a value", api.Inst{Op: api.ICall, Name: "here", Args: []int{0}}, api.ErrNone},
		{"a load of nobody", api.Inst{Op: api.ILoad, Name: "nobody"}, api.ErrNone},
		{"a load of a function", api.Inst{Op: api.ILoad, Name: "seven"}, api.ErrNone},
		{"a load of a function that is elsewhere", api.Inst{Op: api.ILoad, Name: "weak"}, api.ErrNone},
		{"a store of nobody", api.Inst{Op: api.IStore, Name: "nobody"}, api.ErrNone},
		{"a store of a function", api.Inst{Op: api.IStore, Name: "each"}, api.ErrNone},
		{"a name that is longer", api.Inst{Op: api.ILoad, Name: "\x00\x00"}, api.ErrNone},
		{"a name that is shorter", api.Inst{Op: api.ICall, Name: "seve"}, api.ErrNone},
		{"a name in other letters", api.Inst{Op: api.ICall, Name: "Seven"}, api.ErrNone},
	} {
		for _, at := range []int{1, 5} {
			for _, block := range []int{0, len(whole().Funcs[at].Blocks) - 1} {
				m := whole()
				b := &m.Funcs[at].Blocks[block]
				b.Ins[len(b.Ins)-1] = c.i
				expectCheck(t, fmt.Sprint(c.why, ", function ", at, ", block ", block), m, c.want)
			}
		}
	}
}

// TestCheckArg: P5.2, calls with as many values as the function has Params, and with others.
func TestCheckArg(t *testing.T) {
	for params := range 7 {
		for many := range 7 {
			callee := api.Func{Name: "callee", Bind: api.BStrong, Params: params}
			here := callee
			here.Blocks = []api.Block{{Params: params, Ins: []api.Inst{konst(1)}, End: ret(0)}}
			main := seven("main")
			main.Blocks[0].Ins = append(main.Blocks[0].Ins, api.Inst{Op: api.ICall, Name: "callee", Args: count(many)})
			want := api.ErrArg
			if params == many {
				want = api.OK
			}
			why := fmt.Sprint("Params ", params, ", Args of ", many)
			expectCheck(t, why, api.Module{Funcs: []api.Func{main, callee}}, want)
			expectCheck(t, why+", ahead", api.Module{Funcs: []api.Func{callee, main}}, want)
			expectCheck(t, why+", that is here", api.Module{Funcs: []api.Func{main, here}}, want)
			own := seven("own")
			own.Params, own.Blocks[0].Params = params, params
			own.Blocks[0].Ins = append(own.Blocks[0].Ins, api.Inst{Op: api.ICall, Name: "own", Args: count(many)})
			expectCheck(t, why+", its own", api.Module{Funcs: []api.Func{own}}, want)
		}
	}
}

// fault is a way to spoil the module whole, and what Check answers then.
type fault struct {
	why   string
	spoil func(*api.Module)
	e     api.Errno
}

// faults are such ways, in the order in which Check refuses; none of them undoes another one.
func faults() []fault {
	set := func(block, k int, i api.Inst) func(*api.Module) {
		return func(m *api.Module) { m.Funcs[1].Blocks[block].Ins[k] = i }
	}
	return []fault{
		{"too many functions", func(m *api.Module) {
			for n := range 16 {
				m.Funcs = append(m.Funcs, seven(fmt.Sprint("more", n)))
			}
		}, api.ErrBig},
		{"too many globals", func(m *api.Module) {
			for n := range 16 {
				m.Globs = append(m.Globs, api.Glob{Name: fmt.Sprint("glob", n), Bind: 2})
			}
		}, api.ErrBig},
		{"the first function isn't right", func(m *api.Module) { m.Funcs[0].Bind = 0 }, api.ErrShape},
		{"the last function isn't right", func(m *api.Module) { m.Funcs[5].Blocks[0].End = ret(7) }, api.ErrShape},
		{"a global isn't right", func(m *api.Module) { m.Globs[3].Bind = 4 }, api.ErrShape},
		{"two functions of one name", func(m *api.Module) { m.Funcs[4].Name = "elsewhere" }, api.ErrTwice},
		{"two globals of one name", func(m *api.Module) { m.Globs[2].Name = "here" }, api.ErrTwice},
		{"a function and a global of one name", func(m *api.Module) { m.Globs[1].Name = "each" }, api.ErrTwice},
		{"a call of nobody, ahead", set(2, 30, api.Inst{Op: api.ICall, Name: "nobody"}), api.ErrNone},
		{"a load of nobody, behind", set(9, 30, api.Inst{Op: api.ILoad, Name: "nobody"}), api.ErrNone},
		{"a call with one value more, ahead", set(0, 5, api.Inst{Op: api.ICall, Name: "seven", Args: count(1)}), api.ErrArg},
		{"a call with one value fewer, between", set(5, 5, api.Inst{Op: api.ICall, Name: "each", Args: count(1)}), api.ErrArg},
		{"a call with one value more, behind", set(14, 5, api.Inst{Op: api.ICall, Name: "each", Args: count(3)}), api.ErrArg},
	}
}

// TestCheckOrder: P5.2 and R1, of two or three that are wrong the one that is named first is told.
func TestCheckOrder(t *testing.T) {
	l := faults()
	for a, one := range l {
		for b, two := range l[a:] {
			for _, three := range l[a+b:] {
				// In each order, for the answer hangs on what a module is, not on how it came to be.
				m, k := copied(whole()), copied(whole())
				one.spoil(&m)
				if b > 0 {
					two.spoil(&m)
				}
				if three.why != two.why {
					three.spoil(&m)
					three.spoil(&k)
				}
				if b > 0 {
					two.spoil(&k)
				}
				one.spoil(&k)
				why := one.why + "; " + two.why + "; " + three.why
				expectCheck(t, why, m, one.e)
				expectCheck(t, why+", backwards", k, one.e)
			}
		}
	}
}

// TestCheckNothing: R1, Check answers at all modules, also those of which nothing is right.
func TestCheckNothing(t *testing.T) {
	expectCheck(t, "functions of nothing", api.Module{Funcs: make([]api.Func, 3)}, api.ErrShape)
	expectCheck(t, "globals of nothing", api.Module{Globs: make([]api.Glob, 3)}, api.ErrShape)
	expectCheck(t, "too many of nothing", api.Module{Funcs: make([]api.Func, 17), Globs: make([]api.Glob, 17)}, api.ErrBig)
	wild := api.Block{Params: math.MinInt, Ins: make([]api.Inst, 40), End: api.Term{Kind: 2, To: 1 << 40, Else: -5, Args: count(50)}}
	expectCheck(t, "wild blocks", api.Module{Funcs: []api.Func{{Name: "f", Bind: 1, Params: math.MinInt, Blocks: []api.Block{wild}}}}, api.ErrShape)
	if e := ir.Check(api.Module{}); e != api.OK {
		t.Errorf("nothing at all: %d", e)
	}
}
