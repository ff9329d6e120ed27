package merge_test

import (
	"fmt"
	"maps"
	"slices"
	"strings"
	"testing"

	"marline/api"
	"marline/eval"
	"marline/ir"
	"marline/merge"
	"marline/sample"
)

// random gives numbers, and modules by them.
type random struct{ sample.Random }

// randomFrom is a row of them that is always the same.
func randomFrom(start int) *random {
	return &random{sample.Random(start)}
}

// Modules as texts: see package sample.
var mod, mods, words = sample.Mod, sample.Mods, sample.Words

// told is all that stands in something, as a text; it's of no account whether a list without elements is nil.
func told(x any) string {
	return fmt.Sprintf("%+v", x)
}

// expectNames: Names answers these, in memory of its own, and leaves what it was handed as it was.
func expectNames(t *testing.T, why string, l []api.Module, want []map[string]string) {
	t.Helper()
	before := told(l)
	for range 2 { // the second one shows what the first one kept
		got := merge.Names(l)
		if !slices.EqualFunc(got, want, maps.Equal[map[string]string]) {
			t.Errorf("%.500s: Names answers %.500q, not %.500q: %.500s", why, got, want, before)
		}
		for _, m := range got {
			if m != nil {
				m["scribbled"] = "scribbled"
			}
		}
		sample.Scribble(got, nil)
	}
	if told(l) != before {
		t.Errorf("%.500s: Names wrote into what it was handed", why)
	}
}

// expectAll: All answers this error, and else this module, in memory of its own, and leaves what it was handed as it was.
func expectAll(t *testing.T, why string, l []api.Module, keep []string, want api.Module, e api.Errno) {
	t.Helper()
	before, kept := told(l), slices.Clone(keep)
	for range 2 {
		got, is := merge.All(l, keep)
		if is != e || !ir.Same(got, want) {
			t.Errorf("%.500s, keep %.200q: All answers %d and\n%.700s, not %d and\n%.700s", why, keep, is, words(got), e, words(want))
		}
		sample.ScribbleModule(got)
	}
	if told(l) != before || !slices.Equal(keep, kept) {
		t.Errorf("%.500s, keep %.200q: All wrote into what it was handed", why, keep)
	}
}

// right are modules by their text, each of which is right.
func right(t *testing.T, text string) []api.Module {
	t.Helper()
	l := mods(text)
	for at, m := range l {
		if e := ir.Check(m); e != api.OK {
			t.Errorf("%.500s: module %d of the test isn't right: %d", text, at, e)
		}
	}
	return l
}

// expectSound: a module is right and whole.
func expectSound(t *testing.T, why string, m api.Module) {
	t.Helper()
	if e, w := ir.Check(m), eval.Whole(m); e != api.OK || w != api.OK {
		t.Errorf("%.500s: what comes out isn't right and whole: %d, %d: %.700s", why, e, w, words(m))
	}
}

// expectMerged: of right modules by their text, and names that are kept (with a blank between), All answers this module, that is right and whole.
func expectMerged(t *testing.T, text, keep, want string) {
	t.Helper()
	expectAll(t, text, right(t, text), strings.Fields(keep), mod(want), api.OK)
	expectSound(t, text, mod(want))
}

// expectError: of right modules by their text All answers that error alone.
func expectError(t *testing.T, text, keep string, e api.Errno) {
	t.Helper()
	expectAll(t, text, right(t, text), strings.Fields(keep), api.Module{}, e)
}
