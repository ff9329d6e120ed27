package eval_test

import (
	"fmt"
	"strings"
	"testing"

	"marline/api"
)

// base is a module that is whole: it has what isn't here too, but nothing names that; nobody calls rest, and nothing goes to its last block.
func base() api.Module {
	helper := function("helper", block(1, ret(2), load("kept"), store(0, "kept")))
	helper.Bind = api.BLocal
	six := []api.Inst{konst(1), konst(2), konst(3), konst(4), konst(5), konst(6)}
	return api.Module{
		Funcs: []api.Func{
			helper,
			function("main", block(0, jump(1, 6), append(six, call("helper", 0))...), block(1, ret(0), konst(9))),
			{Name: "away", Bind: api.BStrong},
			{Name: "weakly_away", Bind: api.BWeak},
			function("rest", block(0, jump(1), six...), block(0, ret(0), six...), block(0, ret(5), six...)),
		},
		Globs: []api.Glob{
			glob("kept", 5),
			{Name: "gone", Bind: api.BStrong},
			{Name: "weakly_gone", Bind: api.BWeak},
			{Name: "local", Bind: api.BLocal, Here: true},
		},
	}
}

// TestWhole: P7.1, modules that are whole.
func TestWhole(t *testing.T) {
	expectWhole(t, "the document's", seven(), api.OK)
	expectWhole(t, "what isn't here, not named", base(), api.OK)
	for bind := 1; bind <= 3; bind++ {
		m := seven()
		m.Funcs[0].Bind = bind
		expectWhole(t, fmt.Sprint("main of Bind ", bind), m, api.OK)
	}
	for at := range 16 {
		var m api.Module
		for n := range 16 {
			m.Funcs = append(m.Funcs, line(fmt.Sprint("main", n), konst(1)))
		}
		m.Funcs[at].Name = "main"
		expectWhole(t, fmt.Sprint("main is function ", at), m, api.OK)
	}
	expectWhole(t, "main calls itself", module(line("main", call("main"))), api.OK)
	expectWhole(t, "main of blocks that nothing goes to", module(function("main", block(0, jump(0)), block(6, ret(0)))), api.OK)
	for _, i := range []api.Inst{call("helper", 0), load("kept"), load("local"), store(0, "kept"), store(0, "local")} {
		m := base()
		m.Funcs[4].Blocks[2].Ins[3] = i
		expectWhole(t, fmt.Sprintf("%+v", i), m, api.OK)
	}
	r := random(71)
	for n := range 300 {
		expectWhole(t, fmt.Sprint("random ", n), r.module(), api.OK)
	}
}

// TestWholeEntry: P7.1, no function main that has blocks, and no Params.
func TestWholeEntry(t *testing.T) {
	for _, bind := range []int{api.BStrong, api.BWeak} {
		for params := range 7 {
			away := api.Func{Name: "main", Bind: bind, Params: params}
			expectWhole(t, fmt.Sprint("main is elsewhere, Params ", params), module(away), api.ErrEntry)
			expectWhole(t, fmt.Sprint("main is elsewhere, others aren't, Params ", params), module(line("f", konst(1)), away), api.ErrEntry)
		}
	}
	for params := range 7 {
		for bind := 1; bind <= 3; bind++ {
			f := function("main", block(params, ret(0), konst(1)))
			f.Bind = bind
			want := api.ErrEntry
			if params == 0 {
				want = api.OK
			}
			expectWhole(t, fmt.Sprint("main of Params ", params), module(f), want)
			expectWhole(t, fmt.Sprint("main of Params ", params, ", behind another one"), module(line("f", konst(1)), f), want)
		}
	}
	for _, name := range []string{"Main", "MAIN", "mai", "main1", "main\x00", "\x00main", " main", "f"} {
		expectWhole(t, fmt.Sprintf("a function %q alone", name), module(line(name, konst(7))), api.ErrEntry)
	}
	expectWhole(t, "nothing", api.Module{}, api.ErrEntry)
	expectWhole(t, "empty lists", api.Module{Funcs: []api.Func{}, Globs: []api.Glob{}}, api.ErrEntry)
	expectWhole(t, "a global main", api.Module{Globs: []api.Glob{glob("main", 1)}}, api.ErrEntry)
	expectWhole(t, "a global main, and a function", api.Module{Funcs: []api.Func{line("f", konst(7))}, Globs: []api.Glob{glob("main", 1)}}, api.ErrEntry)
}

// TestWholeNone: P7.1, what isn't here, but named, wherever that stands.
func TestWholeNone(t *testing.T) {
	for _, i := range []api.Inst{call("away"), call("weakly_away"), load("gone"), load("weakly_gone"), store(0, "gone"), store(0, "weakly_gone")} {
		for at, f := range base().Funcs {
			for b := range f.Blocks {
				for k := range f.Blocks[b].Ins {
					if i.Op == api.IStore && f.Blocks[b].Params+k == 0 {
						continue // there is no value ahead
					}
					m := base()
					m.Funcs[at].Blocks[b].Ins[k] = i
					expectWhole(t, fmt.Sprintf("%+v in %s, block %d, instruction %d", i, f.Name, b, k), m, api.ErrNone)
				}
			}
		}
	}
}

// TestWholeHere: P7.1, the same names, once what they name is here.
func TestWholeHere(t *testing.T) {
	for _, i := range []api.Inst{call("away"), call("weakly_away"), load("gone"), load("weakly_gone"), store(0, "gone"), store(0, "weakly_gone")} {
		m := base()
		m.Funcs[4].Blocks[2].Ins[3] = i
		m.Funcs[2].Blocks, m.Funcs[3].Blocks = seven().Funcs[0].Blocks, seven().Funcs[0].Blocks
		m.Globs[1].Here, m.Globs[2].Here = true, true
		expectWhole(t, fmt.Sprintf("%+v", i), m, api.OK)
	}
}

// fault is a way to spoil the module base, and what Whole answers then.
type fault struct {
	why   string
	spoil func(*api.Module)
	e     api.Errno
}

// faults are such ways, in the order in which Whole refuses; none of them undoes another one.
func faults() []fault {
	set := func(block, k int, i api.Inst) func(*api.Module) {
		return func(m *api.Module) { m.Funcs[4].Blocks[block].Ins[k] = i }
	}
	return []fault{
		{"too many functions", func(m *api.Module) {
			for n := range 16 {
				m.Funcs = append(m.Funcs, line(fmt.Sprint("more", n), konst(1)))
			}
		}, api.ErrBig},
		{"too many globals", func(m *api.Module) {
			for n := range 16 {
				m.Globs = append(m.Globs, glob(fmt.Sprint("glob", n), 1))
			}
		}, api.ErrBig},
		{"a function isn't right", func(m *api.Module) { m.Funcs[0].Bind = 0 }, api.ErrShape},
		{"the last function isn't right", func(m *api.Module) { m.Funcs[4].Blocks[0].End = ret(6) }, api.ErrShape},
		{"a global isn't right", func(m *api.Module) { m.Globs[3].Bind = 4 }, api.ErrShape},
		{"two functions of one name", func(m *api.Module) { m.Funcs = append(m.Funcs, line("helper", konst(1))) }, api.ErrTwice},
		{"a function and a global of one name", func(m *api.Module) { m.Globs = append(m.Globs, glob("helper", 1)) }, api.ErrTwice},
		{"a call of nobody", set(2, 1, call("nobody")), api.ErrNone},
		{"a load of a function", set(2, 2, load("helper")), api.ErrNone},
		{"a call with too few values", set(0, 1, call("helper")), api.ErrArg},
		{"a call of what isn't here with too many values", set(0, 2, call("away", 0)), api.ErrArg},
		{"no main", func(m *api.Module) { m.Funcs[1].Name = "Main" }, api.ErrEntry},
		{"main without blocks", func(m *api.Module) { m.Funcs[1].Blocks = nil }, api.ErrEntry},
		{"main with Params", func(m *api.Module) { // without blocks too, where it is spoilt so
			m.Funcs[1].Params = 1
			for at := range min(1, len(m.Funcs[1].Blocks)) {
				m.Funcs[1].Blocks[at].Params = 1
			}
		}, api.ErrEntry},
		{"a call of what isn't here", set(2, 4, call("away")), api.ErrNone},
		{"a load of what isn't here", set(0, 5, load("gone")), api.ErrNone},
		{"a store of what isn't here", set(1, 5, store(0, "gone")), api.ErrNone},
	}
}

// TestWholeOrder: P7.1 and R1, of two or three that are wrong the one that is named first is told, in whatever order they came to be.
func TestWholeOrder(t *testing.T) {
	l := faults()
	for a, one := range l {
		m := copied(base())
		one.spoil(&m)
		expectWhole(t, one.why, m, one.e)
		for b, two := range l[a+1:] {
			for _, three := range l[a+1+b:] {
				m, k := copied(base()), copied(base())
				one.spoil(&m)
				two.spoil(&m)
				if three.why != two.why {
					three.spoil(&m)
					three.spoil(&k)
				}
				two.spoil(&k)
				one.spoil(&k)
				why := one.why + "; " + two.why + "; " + three.why
				expectWhole(t, why, m, one.e)
				expectWhole(t, why+", backwards", k, one.e)
			}
		}
	}
}

// TestWholeWild: R1, Whole and Run answer at all modules, also those of which nothing is right.
func TestWholeWild(t *testing.T) {
	expectWhole(t, "functions of nothing", module(make([]api.Func, 3)...), api.ErrShape)
	expectWhole(t, "globals of nothing", api.Module{Globs: make([]api.Glob, 3)}, api.ErrShape)
	expectWhole(t, "too many of nothing", api.Module{Funcs: make([]api.Func, 17), Globs: make([]api.Glob, 17)}, api.ErrBig)
	expectWhole(t, "a long name", module(line(strings.Repeat("main", 5), konst(7))), api.ErrShape)
	told := map[api.Errno]int{}
	for start := range 6000 {
		r := random(start)
		m := copied(r.module())
		for range 1 + r.below(2) {
			if len(m.Funcs) > 0 && len(m.Globs) > 0 {
				r.spoil(&m)
			}
		}
		want := wholeness(m)
		told[want]++
		expectWhole(t, fmt.Sprint("random ", start), m, want)
	}
	for _, e := range []api.Errno{api.OK, api.ErrShape, api.ErrTwice, api.ErrNone, api.ErrArg, api.ErrEntry} {
		if told[e] < 20 {
			t.Errorf("%d of these answer %d", told[e], e)
		}
	}
}
