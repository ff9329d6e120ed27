package resolve_test

import (
	"fmt"
	"slices"
	"testing"

	"marline/api"
	"marline/resolve"
)

// orders are all orders of n things.
func orders(n int) [][]int {
	if n == 0 {
		return [][]int{nil}
	}
	var out [][]int
	for _, l := range orders(n - 1) {
		for at := range n {
			out = append(out, slices.Insert(slices.Clone(l), at, n-1))
		}
	}
	return out
}

// strongOf are the modules that have a strong definition of a name.
func strongOf(l []api.Module, name string) []int {
	var out []int
	for _, i := range itemsOf(l, name) {
		if i.defines && i.bind == api.BStrong {
			out = append(out, i.mod)
		}
	}
	return out
}

// expectOne: what All answers has one row of each shared name, that of its strong definition, if it has one. It answers the rows, and how many of them are strong.
func expectOne(t *testing.T, why string, l []api.Module) ([]api.Def, int) {
	t.Helper()
	all, e := resolve.All(l)
	if e != api.OK {
		t.Errorf("%s: All answers %d", why, e)
		return nil, 0
	}
	if names := resolve.Names(l); len(all) != len(names) {
		t.Errorf("%s: of %d names there are %d rows", why, len(names), len(all))
	}
	strong := 0
	for at, name := range resolve.Names(l) {
		rows := 0
		for _, d := range all {
			if d.Name == name {
				rows++
			}
		}
		if rows != 1 {
			t.Errorf("%s: %q has %d rows", why, name, rows)
		}
		settled := strongOf(l, name)
		if d := all[at]; d.Name != name || d.Weak == (len(settled) > 0) || !d.Weak && (!d.Here || d.Mod != settled[0]) {
			t.Errorf("%s: %q has the row %s, and is defined, strong, in %v", why, name, def(d), settled)
		}
		strong += len(settled)
	}
	return all, strong
}

// TestFollowsOne: P9.3, of modules by hand and of random ones.
func TestFollowsOne(t *testing.T) {
	expectOne(t, "a main", mods("+main"))
	expectOne(t, "the document's", mods("+main ~f | +f"))
	expectOne(t, "all sorts", mods("~a -b ?C* +main | =a ~b ~C* ?d4 | +a -C* ~b =main1"))
	rows, strong := 0, 0
	for start := range 5000 {
		r := random(start)
		l := r.someModules()
		if _, e := resolve.All(l); e == api.OK {
			all, n := expectOne(t, fmt.Sprint("row ", start), l)
			rows += len(all)
			strong += n
		}
	}
	if strong < 300 || rows-strong < 300 {
		t.Errorf("%d rows are tried, %d of them strong", rows, strong)
	}
}

// expectSameMod: of modules in another order a strong name's row speaks of the same one, a weak name's of the one that is now the first.
func expectSameMod(t *testing.T, why string, l []api.Module, order []int) {
	t.Helper()
	var moved []api.Module
	for _, at := range order {
		moved = append(moved, l[at])
	}
	all, e := resolve.All(l)
	again, is := resolve.All(moved)
	if is != e || len(again) != len(all) {
		t.Errorf("%s in the order %v: All answers %d and %d rows, not %d and %d", why, order, is, len(again), e, len(all))
		return
	}
	for _, d := range all {
		k, there := resolve.Find(again, d.Name)
		if !there || k.Func != d.Func || k.Weak != d.Weak || k.Here != d.Here {
			t.Errorf("%s in the order %v: %s becomes %s", why, order, def(d), def(k))
			continue
		}
		first := slices.IndexFunc(order, func(at int) bool {
			return slices.ContainsFunc(itemsOf(l, d.Name), func(i found) bool { return i.mod == at && i.defines == d.Here })
		})
		if d.Weak && k.Mod != first || !d.Weak && order[k.Mod] != d.Mod {
			t.Errorf("%s in the order %v: %s becomes %s", why, order, def(d), def(k))
		}
	}
}

// TestFollowsOrder: P9.3, the order of modules matters for weak ones alone.
func TestFollowsOrder(t *testing.T) {
	for _, text := range []string{
		"+main -f | ~f | +f | ~f", "+main | ~f ~g | ~f +g | ?f -g", "~main | +main ?x* | ?x* | ~y*", "?f | ?f | ?f +main",
		"-f -g | +main =g | ~f | +g", "=f | +main | +f =main | =f*",
		"+main -f | | ?f", "+main +f | +f | -g", "+main | -f | ?f*", "+mai | =main |", "?main | ?main", // of errors, too
	} {
		l := mods(text)
		for _, order := range orders(len(l)) {
			expectSameMod(t, text, l, order)
		}
	}
	right := 0
	for start := range 4000 {
		r := random(start)
		l := r.someModules()
		if _, e := resolve.All(l); e == api.OK {
			right++
		} else if start%8 > 0 {
			continue // most of them tell nothing but their error again
		}
		all := orders(min(len(l), 4))
		for _, order := range all {
			for at := len(order); at < len(l); at++ { // what is behind the fourth one stays, or goes ahead
				order = slices.Insert(order, r.below(2)*len(order), at)
			}
			expectSameMod(t, fmt.Sprint("row ", start), l, order)
		}
	}
	if right < 300 {
		t.Errorf("%d rows alone are right", right)
	}
}
