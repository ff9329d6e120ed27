package pick_test

import (
	"fmt"
	"strings"
	"testing"

	"marline/api"
	"marline/pick"
)

// takeRow are files, and the places of the modules that are taken of them, in order.
type takeRow struct {
	why   string
	files []api.File
	want  []place
}

// expectTakes: Take answers each row's modules.
func expectTakes(t *testing.T, rows []takeRow) {
	t.Helper()
	for _, x := range rows {
		expectTake(t, x.why, marked(x.files...), x.want...)
	}
}

// TestTakeObjects: P8.2, all objects are taken, in order, whatever they define or want.
func TestTakeObjects(t *testing.T) {
	expectTakes(t, []takeRow{
		{"no files", nil, nil},
		{"an object", []api.File{object("+main")}, []place{{0, 0}}},
		{"an object of nothing", []api.File{object("")}, []place{{0, 0}}},
		{"some", []api.File{object("+main -f"), object("+f"), object("-g +h")}, []place{{0, 0}, {1, 0}, {2, 0}}},
		{"what uses ahead of what defines, and behind", []api.File{object("+f"), object("+main -f -g"), object("+g")}, []place{{0, 0}, {1, 0}, {2, 0}}},
		{"such as define the same", []api.File{object("+f"), object("+f"), object("~f")}, []place{{0, 0}, {1, 0}, {2, 0}}},
		{"such as nobody wants", []api.File{object("=a"), object("?b"), object("+c")}, []place{{0, 0}, {1, 0}, {2, 0}}},
		{"what nothing defines", []api.File{object("+main -nowhere -Nowhere")}, []place{{0, 0}}},
		{"MaxFiles of them", objects(8), []place{{0, 0}, {1, 0}, {2, 0}, {3, 0}, {4, 0}, {5, 0}, {6, 0}, {7, 0}}},
	})
	same := object("+f -g")
	out, e := pick.Take([]api.File{same, same, same})
	if e != api.OK || len(out) != 3 {
		t.Errorf("one object three times: %d modules, %d", len(out), e)
	}
}

// TestTakeArchives: P8.2, of archives alone nothing is taken, for nothing is wanted.
func TestTakeArchives(t *testing.T) {
	expectTakes(t, []takeRow{
		{"an archive of nothing", []api.File{archive()}, nil},
		{"an archive of main", []api.File{archive("+main")}, nil},
		{"what its own modules want", []api.File{archive("+main -f", "+f")}, nil},
		{"what another archive's want", []api.File{archive("+main -f"), archive("+f -g"), archive("+g")}, nil},
		{"beside an object that wants nothing", []api.File{archive("+f", "-main"), object("+main"), archive("+g -f")}, []place{{1, 0}}},
	})
}

// TestTakeWanted: P8.2, of archives ahead of objects and behind them those modules are taken that are wanted, and stand behind all.
func TestTakeWanted(t *testing.T) {
	expectTakes(t, []takeRow{
		{"the document's example", []api.File{object("+main -f"), archive("+g", "+f", "+h")}, []place{{0, 0}, {1, 1}}},
		{"an archive ahead", []api.File{archive("+g", "+f", "+h"), object("+main -f")}, []place{{1, 0}, {0, 1}}},
		{"between", []api.File{object("+main -f"), archive("+g", "+f"), object("+x -g")}, []place{{0, 0}, {2, 0}, {1, 0}, {1, 1}}},
		{"ahead and behind", []api.File{archive("+f"), object("+main -f -g"), archive("+g")}, []place{{1, 0}, {0, 0}, {2, 0}}},
		{"behind what wants it alone", []api.File{object("+main"), object("-f"), archive("+f")}, []place{{0, 0}, {1, 0}, {2, 0}}},
		{"a global", []api.File{object("+main -F"), archive("+f", "+F")}, []place{{0, 0}, {1, 1}}},
		{"a weak one", []api.File{object("+main -f -G"), archive("~f", "~G")}, []place{{0, 0}, {1, 0}, {1, 1}}},
		{"in the order of files and modules, not of what wants", []api.File{object("+main -c -b -a"), archive("+b", "+a"), archive("+x", "+c")}, []place{{0, 0}, {1, 0}, {1, 1}, {2, 1}}},
		{"functions and globals, in that order too", []api.File{object("+main -f -G"), archive("+G", "+f")}, []place{{0, 0}, {1, 0}, {1, 1}}},
	})
}

// TestTakeChains: P8.2, what is taken wants more: then the first archive is looked at again.
func TestTakeChains(t *testing.T) {
	expectTakes(t, []takeRow{
		{"an archive ahead is looked at again", []api.File{archive("+b"), object("+main -a"), archive("+a -b")}, []place{{1, 0}, {2, 0}, {0, 0}}},
		{"ahead of one behind that is wanted, too", []api.File{archive("+c"), object("+main -a -b"), archive("+a -c", "+b")}, []place{{1, 0}, {2, 0}, {0, 0}, {2, 1}}},
		{"ahead of another archive that is wanted, too", []api.File{archive("+c"), archive("+a -c"), archive("+b"), object("+main -a -b")}, []place{{3, 0}, {1, 0}, {0, 0}, {2, 0}}},
		{"a module ahead in its own archive", []api.File{object("+main -a -b"), archive("+c", "+a -c", "+b")}, []place{{0, 0}, {1, 1}, {1, 0}, {1, 2}}},
		{"the module behind", []api.File{object("+main -a"), archive("+a -b", "+b -c", "+c")}, []place{{0, 0}, {1, 0}, {1, 1}, {1, 2}}},
		{"backwards", []api.File{object("+main -c"), archive("+a", "+b -a", "+c -b")}, []place{{0, 0}, {1, 2}, {1, 1}, {1, 0}}},
		{"to and fro", []api.File{archive("+d", "+b -c"), object("+main -a"), archive("+c -d", "+a -b")}, []place{{1, 0}, {2, 1}, {0, 1}, {2, 0}, {0, 0}}},
		{"two that want each other", []api.File{object("+main -a"), archive("+b -a", "+a -b")}, []place{{0, 0}, {1, 1}, {1, 0}}},
		{"one that wants what an object defines", []api.File{object("+main -a"), archive("+a -main"), archive("+main")}, []place{{0, 0}, {1, 0}}},
		{"one that wants what is taken already", []api.File{object("+main -a -b"), archive("+a", "+b -a", "+a")}, []place{{0, 0}, {1, 0}, {1, 1}}},
		{"one that nothing taken wants", []api.File{object("+main -a"), archive("+a", "+b -c", "+c -b")}, []place{{0, 0}, {1, 0}}},
	})
	// As many as may be: each one wants what the one ahead defines.
	chain, want := []string{}, []place{{0, 0}}
	for at := range 15 {
		chain = append(chain, fmt.Sprintf("+f%d -f%d", at, at-1))
		want = append(want, place{1, 14 - at})
	}
	expectTake(t, "a chain of all", marked(object("+main -f14"), archive(chain...)), want...)
	expectTake(t, "a chain of some", marked(object("+main -f3"), archive(chain...)), place{0, 0}, place{1, 3}, place{1, 2}, place{1, 1}, place{1, 0})
}

// TestTakeTwice: P8.2, what some define is taken of the first one alone; what one taken defines isn't taken again.
func TestTakeTwice(t *testing.T) {
	expectTakes(t, []takeRow{
		{"two archives define it", []api.File{object("+main -f"), archive("+g", "+f"), archive("+f")}, []place{{0, 0}, {1, 1}}},
		{"two modules of an archive define it", []api.File{object("+main -f"), archive("+f", "+f")}, []place{{0, 0}, {1, 0}}},
		{"the first one weakly", []api.File{object("+main -f"), archive("~f"), archive("+f")}, []place{{0, 0}, {1, 0}}},
		{"an object defines it, too", []api.File{archive("+f"), object("+main -f"), object("+f")}, []place{{1, 0}, {2, 0}}},
		{"an object defines it weakly", []api.File{object("+main -f"), archive("+f"), object("~f")}, []place{{0, 0}, {2, 0}}},
		{"a module defines two", []api.File{object("+main -f -g"), archive("+f +g", "+f", "+g")}, []place{{0, 0}, {1, 0}}},
		{"a module defines two, of which one is there", []api.File{object("+main -f -g"), archive("+f"), archive("+f +g", "+g")}, []place{{0, 0}, {1, 0}, {2, 0}}},
		{"a module defines two, one of them not wanted", []api.File{object("+main -g"), archive("+x +g +y"), archive("+g")}, []place{{0, 0}, {1, 0}}},
		{"what wasn't wanted is wanted later, and there", []api.File{object("+main -g"), archive("+x +g"), object("+z"), archive("+x", "+h")}, []place{{0, 0}, {2, 0}, {1, 0}}},
		{"it is there ahead of being wanted", []api.File{object("+main -g -h"), archive("+x +g"), archive("+h -x"), archive("+x")}, []place{{0, 0}, {1, 0}, {2, 0}}},
		{"a function and a global of one name", []api.File{object("+main -F"), {Archive: true, Mods: []api.Module{{Funcs: []api.Func{seven("F", api.BStrong)}}, mod("+F")}}}, []place{{0, 0}, {1, 0}}},
		{"some objects want it", []api.File{object("-f"), object("-f"), object("-f"), archive("+f")}, []place{{0, 0}, {1, 0}, {2, 0}, {3, 0}}},
	})
}

// TestTakeNot: P8.2, names that aren't wanted, and definitions that are none.
func TestTakeNot(t *testing.T) {
	expectTakes(t, []takeRow{
		{"a weak one isn't wanted", []api.File{object("+main ?f ?G"), archive("+f", "+G", "+f +G")}, []place{{0, 0}}},
		{"a weak one that another one wants", []api.File{object("+main ?f"), archive("+f"), object("-f")}, []place{{0, 0}, {2, 0}, {1, 0}}},
		{"a weak one that one taken wants", []api.File{object("+main ?f -g"), archive("+f"), archive("+g -f")}, []place{{0, 0}, {2, 0}, {1, 0}}},
		{"a weak one of one taken", []api.File{object("+main -g"), archive("+f"), archive("+g ?f")}, []place{{0, 0}, {2, 0}}},
		{"what nothing defines", []api.File{object("+main -f"), archive("+g", "-f", "?f")}, []place{{0, 0}}},
		{"what nothing defines, and more", []api.File{object("+main -f -g -h"), archive("+g"), archive("+x", "+h -y")}, []place{{0, 0}, {1, 0}, {2, 1}}},
		{"a local one defines nothing", []api.File{object("+main -f -G"), archive("=f", "=G", "=f =G")}, []place{{0, 0}}},
		{"a local one ahead of one that defines", []api.File{object("+main -f"), archive("=f", "=x +f")}, []place{{0, 0}, {1, 1}}},
		{"an object's local one defines nothing", []api.File{object("=f"), object("+main -f"), archive("+f")}, []place{{0, 0}, {1, 0}, {2, 0}}},
		{"a local one of one taken defines nothing", []api.File{object("+main -g -f"), archive("+g =f", "+f")}, []place{{0, 0}, {1, 0}, {1, 1}}},
		{"what uses its own local one wants nothing", []api.File{object("+main =f"), archive("+f")}, []place{{0, 0}}},
		{"a name in other letters", []api.File{object("+main -f"), archive("+F", "+ff", "+f\x00", "+\x00f")}, []place{{0, 0}}},
		{"an archive of nothing between", []api.File{object("+main -f"), archive(), archive(""), archive("+f")}, []place{{0, 0}, {3, 0}}},
	})
}

// TestTakeWhole: P8.2, modules are taken as they are, with all that stands in them.
func TestTakeWhole(t *testing.T) {
	long := api.Func{Name: strings.Repeat("n", 16), Bind: api.BWeak, Params: 2, Blocks: []api.Block{
		{Params: 2, Ins: []api.Inst{{Op: api.ICall, Name: "far", Args: []int{1, 0, 1}}, {Op: api.IStore, A: 2, Name: "here"}}, End: api.Term{Kind: api.TIf, A: 2, To: 1, Args: []int{0}, Else: 0, Elses: []int{3, 1}}},
		{Params: 1, Ins: []api.Inst{{Op: api.IAdd, A: 0, B: 0}, {Op: api.IConst, K: 1<<64 - 1}}, End: api.Term{Kind: api.TJump, To: 2, Args: []int{1, 2}}},
		{Params: 2, End: api.Term{Kind: api.TRet, A: 1}},
	}}
	m := api.Module{
		Funcs: []api.Func{{Name: "far", Bind: api.BStrong, Params: 3}, long, {Name: "weak", Bind: api.BWeak, Params: 6}},
		Globs: []api.Glob{{Name: "here", Bind: api.BLocal, Here: true, Init: 1 << 63}, {Name: "away", Bind: api.BStrong}, {Name: "\x00", Bind: api.BWeak}},
	}
	l := []api.File{{Archive: true, Mods: []api.Module{m, m}}, {Mods: []api.Module{m}}, object("-" + strings.Repeat("n", 16)), archive("+far ?x", "~away")}
	expectTake(t, "the object's", marked(l...), place{1, 0}, place{2, 0}, place{3, 0}, place{3, 1})
	l[1] = object("+main")
	expectTake(t, "the archive's", marked(l...), place{1, 0}, place{2, 0}, place{0, 0}, place{3, 0}, place{3, 1})
}

// slow is what Take takes by the chapter's words: round by round, each name that may be wanted is asked of each module anew.
func slow(l []api.File) []place {
	var taken []place
	for file, f := range l {
		if !f.Archive {
			taken = append(taken, place{file, 0})
		}
	}
	for {
		next, is := firstWanted(l, taken)
		if !is {
			return taken
		}
		taken = append(taken, next)
	}
}

// firstWanted is the first module of the first archive that is wanted and isn't taken, if there is one.
func firstWanted(l []api.File, taken []place) (place, bool) {
	for file, f := range l {
		for at := range f.Mods {
			if p := (place{file, at}); f.Archive && isWanted(l, taken, p) {
				return p, true
			}
		}
	}
	return place{}, false
}

// isWanted: isn't the module there taken, and does it define a name that one that is taken wants, and none that is taken defines?
func isWanted(l []api.File, taken []place, p place) bool {
	for _, q := range taken {
		if p == q {
			return false
		}
	}
	at := func(p place) api.Module { return l[p.file].Mods[p.mod] }
	for _, name := range itemNames(at(p)) {
		wants, defines := false, false
		for _, q := range taken {
			wants = wants || wantsName(at(q), name)
			defines = defines || definesName(at(q), name)
		}
		if definesName(at(p), name) && wants && !defines {
			return true
		}
	}
	return false
}

// someFiles are files that may be linked, of random modules.
func (r *random) someFiles() []api.File {
	var l []api.File
	left := 16
	for range r.below(9) {
		f := api.File{Archive: left < 2 || r.below(4) > 0}
		n := 1
		if f.Archive {
			n = r.below(min(left, 6) + 1)
		}
		for range n {
			f.Mods = append(f.Mods, r.someMod())
		}
		left -= n
		l = append(l, f)
	}
	return marked(l...)
}

// TestTakeRandom: P8.2, random files, against the chapter's words.
func TestTakeRandom(t *testing.T) {
	counts := [17]int{}
	for start := range 5000 {
		r := random(start)
		l := r.someFiles()
		want := slow(l)
		expectTake(t, fmt.Sprint("row ", start), l, want...)
		more := len(want)
		for _, f := range l {
			if !f.Archive {
				more--
			}
		}
		counts[more]++
	}
	for n, least := range [17]int{1000, 500, 300, 200, 100, 20} {
		if counts[n] < least {
			t.Errorf("of archives' modules %d are taken %d times alone", n, counts[n])
		}
	}
}
