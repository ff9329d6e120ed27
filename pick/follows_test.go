package pick_test

import (
	"fmt"
	"slices"
	"testing"

	"marline/api"
	"marline/pick"
)

// missing are the names that some modules want and none of them defines.
func missing(l []api.Module) []string {
	var out []string
	for _, m := range l {
		for _, name := range pick.Wants(m) {
			if !slices.ContainsFunc(l, func(k api.Module) bool { return slices.Contains(pick.Defines(k), name) }) {
				out = append(out, name)
			}
		}
	}
	return out
}

// definesOne: does a module define one of these names?
func definesOne(m api.Module, names []string) bool {
	return slices.ContainsFunc(pick.Defines(m), func(name string) bool { return slices.Contains(names, name) })
}

// expectFollows: what Take answers is as P8.3 says: objects first, then what defined something wanted, and nothing else is wanted. It answers how many of archives are taken, and how many aren't.
func expectFollows(t *testing.T, why string, l []api.File) (int, int) {
	t.Helper()
	out, e := pick.Take(l)
	if e != api.OK {
		t.Errorf("%s: Take answers %d", why, e)
		return 0, 0
	}
	taken := map[place]bool{}
	for _, p := range placesOf(out) {
		if taken[p] {
			t.Errorf("%s: %v is taken twice", why, p)
		}
		taken[p] = true
	}
	first := 0
	for at, f := range l {
		if !f.Archive {
			if first >= len(out) || placeOf(out[first]) != (place{at, 0}) {
				t.Errorf("%s: object %d isn't taken in its place", why, at)
			}
			first++
		}
	}
	for at := first; at < len(out); at++ {
		if !definesOne(out[at], missing(out[:at])) {
			t.Errorf("%s: %v is taken, and defines nothing that is wanted", why, placeOf(out[at]))
		}
	}
	left := 0
	for file, f := range l {
		for at, m := range f.Mods {
			if p := (place{file, at}); !taken[p] {
				left++
				if definesOne(m, missing(out)) {
					t.Errorf("%s: %v is wanted, and isn't taken", why, p)
				}
			}
		}
	}
	return len(out) - first, left
}

// TestFollows: P8.3, of files by hand and of random ones.
func TestFollows(t *testing.T) {
	expectFollows(t, "no files", nil)
	expectFollows(t, "the document's", marked(object("+main -f"), archive("+g", "+f", "+h")))
	expectFollows(t, "archives ahead", marked(archive("+b"), archive("+a -b", "+c"), object("+main -a -x"), archive("+b", "+a")))
	taken, left := 0, 0
	for start := range 3000 {
		r := random(start)
		a, b := expectFollows(t, fmt.Sprint("row ", start), r.someFiles())
		taken += a
		left += b
	}
	if taken < 1000 || left < 1000 {
		t.Errorf("%d of archives' modules are taken, %d aren't", taken, left)
	}
}

// takenOf are the places of the modules that Take takes.
func takenOf(t *testing.T, l []api.File) []place {
	t.Helper()
	out, e := pick.Take(l)
	if e != api.OK {
		t.Fatalf("Take answers %d", e)
	}
	return placesOf(out)
}

// expectSameTaken: of other files the same marked modules are taken.
func expectSameTaken(t *testing.T, why string, l []api.File, want []place) {
	t.Helper()
	if got := takenOf(t, l); !slices.Equal(got, want) {
		t.Errorf("%s: %v is taken, not %v", why, got, want)
	}
}

// TestFollowsMore: P8.3, an archive that defines nothing wanted changes nothing, wherever it stands.
func TestFollowsMore(t *testing.T) {
	idle := []api.File{
		archive(), archive(""), archive("+nobody", "~Nobody"), archive("=a =A", "=b =B", "=c", "=d", "=e", "=f"),
		archive("-a -b -c -d -e -f", "-A -B -C"), archive("?a ?A", "+nobody -a -A"),
	}
	tried := 0
	for start := range 1000 {
		r := random(start)
		l := r.someFiles()
		want := takenOf(t, l)
		for at := range len(l) + 1 {
			more := slices.Insert(slices.Clone(l), at, idle[r.below(len(idle))])
			if pick.Check(more) == api.OK {
				tried++
				expectSameTaken(t, fmt.Sprint("row ", start, ", with an archive more at ", at), more, want)
			}
		}
	}
	if tried < 1000 {
		t.Errorf("tried %d times alone", tried)
	}
}

// TestFollowsFewer: P8.3, what isn't taken may as well be away: an archive of which nothing is, or a module.
func TestFollowsFewer(t *testing.T) {
	files, mods := 0, 0
	for start := range 1000 {
		r := random(start)
		l := r.someFiles()
		want := takenOf(t, l)
		for file, f := range l {
			whole := f.Archive
			for at := len(f.Mods) - 1; at >= 0; at-- {
				if slices.Contains(want, place{file, at}) {
					whole = false
					continue
				}
				mods++
				fewer := copied(l)
				fewer[file].Mods = slices.Delete(fewer[file].Mods, at, at+1)
				expectSameTaken(t, fmt.Sprint("row ", start, ", less module ", at, " of file ", file), fewer, want)
			}
			if whole {
				files++
				expectSameTaken(t, fmt.Sprint("row ", start, ", less file ", file), slices.Delete(slices.Clone(l), file, file+1), want)
			}
		}
	}
	if files < 300 || mods < 1000 {
		t.Errorf("%d files and %d modules alone are left out", files, mods)
	}
}

// TestFollowsAgain: P8.3, what is taken, as objects, is taken again alone, whatever archives there are.
func TestFollowsAgain(t *testing.T) {
	tried := 0
	for start := range 1000 {
		r := random(start)
		l := r.someFiles()
		out, e := pick.Take(l)
		if e != api.OK || len(out) > 8 {
			continue
		}
		var again []api.File
		for _, m := range out {
			again = append(again, api.File{Mods: []api.Module{m}})
		}
		for _, f := range l {
			if f.Archive {
				again = append(again, f)
			}
		}
		if pick.Check(again) != api.OK {
			continue
		}
		tried++
		expectSameTaken(t, fmt.Sprint("row ", start), again, placesOf(out))
	}
	if tried < 200 {
		t.Errorf("tried %d times alone", tried)
	}
}
