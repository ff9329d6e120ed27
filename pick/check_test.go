package pick_test

import (
	"fmt"
	"strings"
	"testing"

	"marline/api"
)

// files are so many archives of no module.
func files(n int) []api.File {
	l := make([]api.File, n)
	for at := range l {
		l[at].Archive = true
	}
	return l
}

// archiveOf is an archive of so many modules that define nothing.
func archiveOf(n int) api.File {
	return archive(make([]string, n)...)
}

// objects are so many objects.
func objects(n int) []api.File {
	var l []api.File
	for at := range n {
		l = append(l, object(fmt.Sprint("+f", at)))
	}
	return l
}

// TestCheckFiles: P8.1, MaxFiles files, and one more.
func TestCheckFiles(t *testing.T) {
	for _, n := range []int{0, 1, 2, 7, 8, 9, 10, 100} {
		want := api.OK
		if n > 8 {
			want = api.ErrBig
		}
		expectCheck(t, fmt.Sprint(n, " objects"), objects(n), want)
		expectCheck(t, fmt.Sprint(n, " archives of nothing"), files(n), want)
		half := files(n)
		copy(half, objects(n/2))
		expectCheck(t, fmt.Sprint(n, " files, of which half are objects"), half, want)
		full := objects(n)
		if n > 0 {
			full[n-1] = archiveOf(17 - n%18)
			expectCheck(t, fmt.Sprint(n, " files, the last one an archive with all that is left"), full, want)
		}
	}
	expectCheck(t, "no list of files", nil, api.OK)
}

// TestCheckMods: P8.1, MaxMods modules in all, and one more.
func TestCheckMods(t *testing.T) {
	for _, n := range []int{0, 1, 2, 14, 15, 16, 17, 18, 33, 300} {
		for ahead := range 4 {
			for behind := range 4 {
				l := objects(ahead)
				l = append(l, archiveOf(n))
				l = append(l, objects(behind)...)
				want := api.OK
				if ahead+n+behind > 16 {
					want = api.ErrBig
				}
				expectCheck(t, fmt.Sprint("an archive of ", n, ", ", ahead, " objects ahead, ", behind, " behind"), l, want)
			}
		}
	}
	for first := range 19 {
		for second := range 19 {
			want := api.OK
			if first+second > 16 {
				want = api.ErrBig
			}
			l := []api.File{archiveOf(first), archiveOf(0), archiveOf(second)}
			expectCheck(t, fmt.Sprint("archives of ", first, ", none and ", second), l, want)
		}
	}
	l := files(8)
	for at := range l {
		l[at] = archiveOf(2)
	}
	expectCheck(t, "eight archives of two", l, api.OK)
	for at := range l {
		l[at] = archiveOf(3)
		expectCheck(t, fmt.Sprint("eight archives of two, one has one more: ", at), l, api.ErrBig)
		l[at] = archiveOf(2)
	}
}

// TestCheckObjects: P8.1, an object has just one module, an archive any number.
func TestCheckObjects(t *testing.T) {
	for at := range 8 {
		for _, n := range []int{0, 1, 2, 3, 9} {
			l := objects(8)
			l[at] = archiveOf(n)
			expectCheck(t, fmt.Sprint("file ", at, " is an archive of ", n), l, api.OK)
			want := api.ErrArg
			if n == 1 {
				want = api.OK
			}
			l[at].Archive = false
			expectCheck(t, fmt.Sprint("file ", at, " is an object of ", n), l, want)
			m := files(8)
			m[at] = l[at]
			expectCheck(t, fmt.Sprint("file ", at, " alone is an object, of ", n), m, want)
		}
	}
	l := []api.File{{Mods: make([]api.Module, 16)}}
	expectCheck(t, "an object of 16", l, api.ErrArg)
	l = []api.File{{Mods: make([]api.Module, 17)}}
	expectCheck(t, "an object of 17", l, api.ErrBig)
	l = []api.File{{Mods: make([]api.Module, 1)}}
	expectCheck(t, "an object of a module of nothing", l, api.OK)
}

// badMod is a module that isn't right, and what chapter 5's Check answers.
type badMod struct {
	why string
	m   api.Module
	e   api.Errno
}

// badMods are such modules, of each error some.
func badMods() []badMod {
	several := func(sign string, n int) string {
		var words []string
		for at := range n {
			words = append(words, fmt.Sprint(sign, at))
		}
		return strings.Join(words, " ")
	}
	calls := mod("+f -g -H")
	calls.Funcs[0] = line("f", api.BStrong, api.Inst{Op: api.ICall, Name: "nobody"})
	loads := mod("+f -g -H")
	loads.Funcs[0] = line("f", api.BStrong, api.Inst{Op: api.ILoad, Name: "g"})
	args := mod("+f -g -H")
	args.Funcs[0] = line("f", api.BStrong, api.Inst{Op: api.IRead}, api.Inst{Op: api.ICall, Name: "g", Args: []int{0}})
	const long = "seventeen_bytes17"
	return []badMod{
		{"a function too many", mod(several("+f", 17)), api.ErrBig},
		{"a wanted function too many", mod(several("-f", 17)), api.ErrBig},
		{"a global too many", mod(several("+G", 17)), api.ErrBig},
		{"a function of nothing", api.Module{Funcs: make([]api.Func, 1)}, api.ErrShape},
		{"a global of nothing", api.Module{Globs: make([]api.Glob, 1)}, api.ErrShape},
		{"a long name", mod("+" + long), api.ErrShape},
		{"a long name that is wanted", mod("-" + strings.ToUpper(long)), api.ErrShape},
		{"a local function that isn't here", api.Module{Funcs: []api.Func{{Name: "f", Bind: api.BLocal}}}, api.ErrShape},
		{"a function twice", mod("+f -g -f"), api.ErrTwice},
		{"a global twice", mod("-G =G"), api.ErrTwice},
		{"a call of nobody", calls, api.ErrNone},
		{"a load of a function", loads, api.ErrNone},
		{"a call with a value too many", args, api.ErrArg},
	}
}

// room are files of two objects and two archives, with a place for each module.
func room() ([]api.File, []place) {
	l := []api.File{object("+main -a"), archive("+a", "+b", "+c -d"), object("+x"), archive("+d", "~a")}
	return l, []place{{0, 0}, {1, 0}, {1, 1}, {1, 2}, {2, 0}, {3, 0}, {3, 1}}
}

// TestCheckModules: P8.1, a module that isn't right, with each error, at each place, whether it is wanted or not.
func TestCheckModules(t *testing.T) {
	_, places := room()
	for _, bad := range badMods() {
		for _, p := range places {
			l, _ := room()
			expectCheck(t, "all right", l, api.OK)
			l[p.file].Mods[p.mod] = bad.m
			expectCheck(t, fmt.Sprint(bad.why, " at ", p), l, bad.e)
		}
		expectCheck(t, bad.why+", alone", []api.File{{Mods: []api.Module{bad.m}}}, bad.e)
		expectCheck(t, bad.why+", alone in an archive", []api.File{{Archive: true, Mods: []api.Module{bad.m}}}, bad.e)
	}
}

// TestCheckFirst: P8.1, of two modules that aren't right the first one's error is told, whatever it is.
func TestCheckFirst(t *testing.T) {
	_, places := room()
	for _, one := range badMods() {
		for _, two := range badMods() {
			for at, p := range places {
				for _, q := range places[at+1:] {
					l, _ := room()
					l[p.file].Mods[p.mod] = one.m
					l[q.file].Mods[q.mod] = two.m
					expectCheck(t, fmt.Sprint(one.why, " at ", p, ", ", two.why, " at ", q), l, one.e)
				}
			}
		}
	}
}

// fault is a way to spoil the files of room, and what Check answers then.
type fault struct {
	why   string
	spoil func(*[]api.File)
	e     api.Errno
}

// faults are such ways, in the order in which Check refuses; none of them undoes another one.
func faults() []fault {
	bad := func(p place, m api.Module) func(*[]api.File) {
		return func(l *[]api.File) { (*l)[p.file].Mods[p.mod] = m }
	}
	l := []fault{
		{"files too many", func(l *[]api.File) { *l = append(*l, files(5)...) }, api.ErrBig},
		{"modules too many", func(l *[]api.File) { *l = append(*l, archiveOf(10)) }, api.ErrBig},
		{"an object of none, behind", func(l *[]api.File) { *l = append(*l, api.File{}) }, api.ErrArg},
		{"an object of two, between", func(l *[]api.File) { (*l)[2].Mods = append((*l)[2].Mods, mod("+y")) }, api.ErrArg},
		{"an object of three", func(l *[]api.File) { (*l)[1].Archive = false }, api.ErrArg},
	}
	_, places := room()
	mods := badMods()
	// Of modules the place decides which error is first: these stand in no order of their numbers, nor of chapter 5's list.
	for at, k := range []int{12, 10, 8, 3, 0, 9, 5} {
		l = append(l, fault{fmt.Sprint(mods[k].why, " at ", places[at]), bad(places[at], mods[k].m), mods[k].e})
	}
	return l
}

// TestCheckOrder: P8.1 and R1, of two or three that are wrong the one that is named first is told.
func TestCheckOrder(t *testing.T) {
	l := faults()
	for a, one := range l {
		for b, two := range l[a:] {
			for _, three := range l[a+b:] {
				k, _ := room()
				one.spoil(&k)
				if b > 0 {
					two.spoil(&k)
				}
				if three.why != two.why {
					three.spoil(&k)
				}
				expectCheck(t, one.why+"; "+two.why+"; "+three.why, k, one.e)
			}
		}
	}
}

// TestCheckAlone: P8.1, what modules define and want together is nothing that Check refuses.
func TestCheckAlone(t *testing.T) {
	for why, l := range map[string][]api.File{
		"two strong ones":                 {object("+f"), object("+f")},
		"a function and a global":         {object("+f -G"), object("+G"), archive("-f", "+f")},
		"what nothing defines":            {object("-f -G")},
		"no main":                         {object("+f"), archive("+g")},
		"archives alone":                  {archive("+main"), archive("-main")},
		"the same name in all of archive": {archive("+f", "+f", "~f", "=f", "-f", "?f")},
		"modules of nothing":              {object(""), archive("", "")},
	} {
		expectCheck(t, why, l, api.OK)
	}
	one := mod("+f")
	other := mod("+g -f")
	other.Funcs[1].Params = 3
	expectCheck(t, "other Params elsewhere", []api.File{{Mods: []api.Module{one}}, {Mods: []api.Module{other}}}, api.OK)
}
