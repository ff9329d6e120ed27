package merge_test

import (
	"fmt"
	"slices"
	"strings"
	"testing"

	"marline/api"
	"marline/eval"
	"marline/merge"
	"marline/resolve"
)

// meant is what a name means in a module of some: the number that is written in its definition.
func meant(l []api.Module, at int, name string) uint64 {
	here := func(m api.Module, so func(bind int, here bool) bool) (uint64, bool) {
		for _, f := range m.Funcs {
			if f.Name == name && so(f.Bind, len(f.Blocks) > 0) {
				return f.Blocks[0].Ins[0].K, true
			}
		}
		for _, g := range m.Globs {
			if g.Name == name && so(g.Bind, g.Here) {
				return g.Init, true
			}
		}
		return 0, false
	}
	if k, is := here(l[at], func(bind int, _ bool) bool { return bind == api.BLocal }); is {
		return k
	}
	for _, want := range []int{api.BStrong, api.BWeak} {
		for _, m := range l {
			if k, is := here(m, func(bind int, here bool) bool { return bind == want && here }); is {
				return k
			}
		}
	}
	return 0
}

// source is the module of some, and the function there, that gives back that number, or none for a 0.
func source(t *testing.T, l []api.Module, k uint64) (int, api.Func) {
	t.Helper()
	for at, m := range l {
		for _, f := range m.Funcs {
			if len(f.Blocks) > 0 && f.Blocks[0].Ins[0].K == k {
				return at, f
			}
		}
	}
	if k != 0 {
		t.Errorf("no function of the number %d went in", k)
	}
	return 0, api.Func{}
}

// expectMeant: each name in a module that was made of some means what it meant there; it answers how many names were local, and how many weren't there.
func expectMeant(t *testing.T, why string, l []api.Module, m api.Module) (local, missing int) {
	t.Helper()
	for _, f := range m.Funcs {
		at, was := source(t, l, f.Blocks[0].Ins[0].K)
		if len(was.Blocks) == 0 {
			missing++
			continue
		}
		for k, i := range was.Blocks[0].Ins {
			if i.Name == "" {
				continue
			}
			now := f.Blocks[0].Ins[k].Name
			if got, want := meant([]api.Module{m}, 0, now), meant(l, at, i.Name); got != want {
				t.Errorf("%.500s: %q of module %d was %d, and is, as %q, %d", why, i.Name, at, want, now, got)
			}
			if strings.HasPrefix(now, ".") && now != i.Name {
				local++
			}
		}
	}
	return local, missing
}

// TestFollowsMeant: P10.4, of random modules whose definitions all have a number of their own each name means what it meant: nothing local of another module's, and nothing that is missing.
func TestFollowsMeant(t *testing.T) {
	merged, local, missing := 0, 0, 0
	for start := range 10000 {
		r := randomFrom(start + 1<<40)
		l := r.someModules()
		m, e := merge.All(l, nil)
		if e != api.OK {
			continue
		}
		merged++
		why := fmt.Sprint("row ", start)
		expectSound(t, why, m)
		a, b := expectMeant(t, why, l, m)
		local, missing = local+a, missing+b
	}
	if merged < 1000 || local < 1000 || missing < 200 {
		t.Errorf("%d rows are merged, %d local names and %d that are nowhere met", merged, local, missing)
	}
}

// inputs are some texts that are read.
var inputs = []string{"", "a", "\x00\xffmany bytes of input"}

// expectRuns: two modules do the same, with any fuel and so many calls open; it answers how many runs ended, and how many wrote.
func expectRuns(t *testing.T, why string, a, b api.Module) (ended, wrote int) {
	t.Helper()
	for _, in := range inputs {
		for _, fuel := range []int{7, 40, 2000} {
			for _, deep := range []int{2, 20} {
				x, e := eval.Run(a, in, fuel, deep)
				y, is := eval.Run(b, in, fuel, deep)
				if x != y || e != is {
					t.Errorf("%s, %q, fuel %d, deep %d: it runs as %+q, %d, not %+q, %d", why, in, fuel, deep, told(y), is, told(x), e)
				}
				if y.Ended {
					ended++
				}
				if y.Out != "" {
					wrote++
				}
			}
		}
	}
	return ended, wrote
}

// TestFollowsAlone: P10.4, a module that is merged alone runs as it did.
func TestFollowsAlone(t *testing.T) {
	ended, wrote, local := 0, 0, 0
	for start := range 2000 {
		r := randomFrom(start)
		m := r.Whole()
		if e := eval.Whole(m); e != api.OK {
			t.Fatalf("row %d: the test's module isn't whole: %d", start, e)
		}
		keep := []string{"main"}
		for _, d := range definitions(t, m) {
			if d.Here && r.Below(2) == 0 {
				keep = append(keep, d.Name)
			}
		}
		out, e := merge.All([]api.Module{m}, keep)
		why := fmt.Sprint("row ", start)
		if e != api.OK || len(out.Funcs) != len(m.Funcs) || len(out.Globs) != len(m.Globs) {
			t.Errorf("%s: All answers %d functions and %d globals, %d, of %d and %d", why, len(out.Funcs), len(out.Globs), e, len(m.Funcs), len(m.Globs))
		}
		expectSound(t, why, out)
		a, b := expectRuns(t, why, m, out)
		ended, wrote, local = ended+a, wrote+b, local+len(merge.Names([]api.Module{m})[0])
	}
	if ended < 2000 || wrote < 500 || local < 500 {
		t.Errorf("%d runs ended, %d wrote, %d names were local", ended, wrote, local)
	}
}

// definitions are those of one module's names.
func definitions(t *testing.T, m api.Module) []api.Def {
	t.Helper()
	l, e := resolve.All([]api.Module{m})
	if e != api.OK {
		t.Fatalf("the test's module has no definitions: %d", e)
	}
	return l
}

// apart are the functions and globals of a whole module put in so many modules; what stands in another one is declared. Where a name is named in one module alone, it may be local there, and is h there.
func (r *random) apart(m api.Module, many int) (l []api.Module, local int) {
	l = make([]api.Module, many)
	home := map[string]int{}
	for _, f := range m.Funcs {
		home[f.Name] = r.Below(many)
		f.Bind = r.shared(len(f.Blocks) > 0)
		l[home[f.Name]].Funcs = append(l[home[f.Name]].Funcs, f)
	}
	for _, g := range m.Globs {
		home[g.Name] = r.Below(many)
		g.Bind = r.shared(g.Here)
		l[home[g.Name]].Globs = append(l[home[g.Name]].Globs, g)
	}
	abroad := map[string]bool{"main": true, "away": true, "gone": true}
	for at := range l {
		for _, name := range namesIn(l[at]) {
			if home[name] != at {
				abroad[name] = true
				r.declare(&l[at], m, name)
			}
		}
	}
	for at := range l {
		for _, d := range m.Funcs {
			if home[d.Name] == at && !abroad[d.Name] {
				l[at] = hidden(l[at], d.Name)
				local++
				break // one h a module
			}
		}
	}
	return l, local
}

// shared is a Bind that isn't local: of what isn't here a weak one.
func (r *random) shared(here bool) int {
	if here && r.Below(2) == 0 {
		return api.BStrong
	}
	return api.BWeak
}

// namesIn are the names in the instructions of a module, each once.
func namesIn(m api.Module) []string {
	var out []string
	for _, f := range m.Funcs {
		for _, b := range f.Blocks {
			for _, i := range b.Ins {
				if i.Name != "" && !slices.Contains(out, i.Name) {
					out = append(out, i.Name)
				}
			}
		}
	}
	return out
}

// declare puts into a module what a name of the whole one is, without a definition.
func (r *random) declare(to *api.Module, whole api.Module, name string) {
	for _, f := range whole.Funcs {
		if f.Name == name {
			to.Funcs = append(to.Funcs, api.Func{Name: name, Bind: 2 + r.Below(2), Params: f.Params})
		}
	}
	for _, g := range whole.Globs {
		if g.Name == name {
			to.Globs = append(to.Globs, api.Glob{Name: name, Bind: 2 + r.Below(2)})
		}
	}
}

// hidden is a module in which the function of a name is local, and is h.
func hidden(m api.Module, name string) api.Module {
	var out api.Module
	for _, f := range m.Funcs {
		f = otherwise(f, map[string]string{name: "h"})
		if f.Name == "h" {
			f.Bind = api.BLocal
		}
		out.Funcs = append(out.Funcs, f)
	}
	out.Globs = m.Globs
	return out
}

// TestFollowsApart: P10.4, a module whose functions and globals were put in several ones runs, when these are merged, as it did.
func TestFollowsApart(t *testing.T) {
	ended, wrote, local, met := 0, 0, 0, 0
	for start := range 3000 {
		r := randomFrom(start + 1<<41)
		m := r.Whole()
		l, n := r.apart(m, 1+r.Below(5))
		out, e := merge.All(l, nil)
		why := fmt.Sprint("row ", start)
		if e != api.OK || len(out.Funcs) != len(m.Funcs) || len(out.Globs) != len(m.Globs) {
			t.Errorf("%s: All answers %d functions and %d globals, %d, of %d and %d", why, len(out.Funcs), len(out.Globs), e, len(m.Funcs), len(m.Globs))
			continue
		}
		expectSound(t, why, out)
		a, b := expectRuns(t, why, m, out)
		ended, wrote, local = ended+a, wrote+b, local+n
		if n > 1 {
			met++
		}
	}
	if ended < 3000 || wrote < 500 || local < 1000 || met < 200 {
		t.Errorf("%d runs ended, %d wrote, %d functions were local, %d rows had several of one name", ended, wrote, local, met)
	}
}
