package resolve_test

import (
	"fmt"
	"testing"

	"marline/api"
)

// TestErrShape: P9.2, a name of a function and a global, or of two functions with other Params.
func TestErrShape(t *testing.T) {
	for _, text := range []string{
		"+main +f | ~f*", "+main ~f* | +f", "+main -f | +f*", "+main -f* | +f", "+main ?f | ?f*", "+main ?f* | ~f*  | ~f",
		"+main +f | ~f1", "+main +f1 | ~f", "+main -f | +f6", "+main -f5 | +f6", "+main ?f1 | ?f2", "+main ~f1 | ~f1 | ~f2",
		"+main +f1 | -f1 | -f1 | ?f2", "+main | +f | | -f | | ?f | | ?f*",
		"+main | ~main*", "+main | ~main1", "?main6 | +main", "?main* | +main", "+main1 | ~main2", "+main* | ?main",
		"+main +a +b +c | +d | +a*", "+main +a | ~b1 | ~b2",
	} {
		expectError(t, text, api.ErrShape)
	}
	for text, want := range map[string]string{
		"+main +f | =f*":            "main 0 FH, f 0 FH",
		"+main +f | =f1":            "main 0 FH, f 0 FH",
		"=main1 | +main | =main*":   "main 1 FH",
		"+main =f1 | =f2 | =f*":     "main 0 FH",
		"+main +f2 | ~f2 -g5 | ~g5": "main 0 FH, f 0 FH, g 2 FWH",
	} {
		expectDefs(t, text, want)
	}
}

// TestErrTwice: P9.2, two strong definitions.
func TestErrTwice(t *testing.T) {
	for _, text := range []string{
		"+main +f | +f", "+main +f* | +f*", "+main | +f3 | | +f3", "+main | +f | ~f | +f", "+main ~f | -f | +f | ?f | +f",
		"+main +f | +f | +f | +f", "+main | +main", "+main | +f +g | +h | +g", "+main | +x* | +y* | +z* | +y*",
	} {
		expectError(t, text, api.ErrTwice)
	}
	for text, want := range map[string]string{
		"+main +f | ~f | ~f | ~f": "main 0 FH, f 0 FH",
		"+main +f | -f | -f | -f": "main 0 FH, f 0 FH",
		"+main +f | =f | =f":      "main 0 FH, f 0 FH",
		"+main | =main | =main":   "main 0 FH",
		"+main =f | =f | =f*":     "main 0 FH",
		"+main ~x* | +x* | ~x*":   "main 0 FH, x 1 H",
	} {
		expectDefs(t, text, want)
	}
}

// TestErrNone: P9.2, a strong name that nothing defines.
func TestErrNone(t *testing.T) {
	for _, text := range []string{
		"+main -f", "+main -x*", "+main -f6 | -f6", "+main ?f | -f", "+main -f | ?f", "+main ?x* | ?x* | -x*", "+main | -f | ?f | -f",
		"+main -f | =f", "+main =x* | -x*", "-main", "-main | ?main", "?main | -main | =main", "+main +f | ~g | -h | ?i",
	} {
		expectError(t, text, api.ErrNone)
	}
	for text, want := range map[string]string{
		"+main -f | ~f": "main 0 FH, f 1 FWH",
		"+main ?f | ?f": "main 0 FH, f 0 FW",
		"+main | ?x*":   "main 0 FH, x 1 W",
	} {
		expectDefs(t, text, want)
	}
}

// TestErrEntry: P9.2, no main, or one that isn't a function without Params, or isn't there.
func TestErrEntry(t *testing.T) {
	for _, text := range []string{
		"", "|", "+f", "+f | +x*", "=main", "=main | =main", "=main +f | -f", "+Main", "+mai", "+mainn",
		"+main*", "~main*", "?main*", "-main* | +main*", "?main* | ~main* | =main",
		"+main1", "~main1", "+main6 | -main6", "?main1", "?main1 | ~main1",
		"?main", "?main | ?main", "?main | =main | ?main", "?main | +f", "=main | ?main*",
	} {
		expectError(t, text, api.ErrEntry)
	}
	expectAll(t, "no list", nil, "", api.ErrEntry)
	expectAll(t, "an empty list", []api.Module{}, "", api.ErrEntry)
}

// fault is a text of modules with something that is wrong, and its error.
type fault struct {
	text string
	e    api.Errno
}

// faults are such, of names that begin with that letter, in the order of the errors.
func faults(name string) []fault {
	var l []fault
	for _, f := range []fault{
		{"+%sone | ~%[1]sone*", api.ErrShape},
		{"?%sone3 | ~%[1]sone2", api.ErrShape},
		{"+%stwo | +%[1]stwo", api.ErrTwice},
		{"+%stwo* | | +%[1]stwo*", api.ErrTwice},
		{"-%snone | ?%[1]snone", api.ErrNone},
		{"| -%snone*", api.ErrNone},
	} {
		l = append(l, fault{fmt.Sprintf(f.text, name), f.e})
	}
	return l
}

// rank is how far behind an error is named.
func rank(e api.Errno) int {
	return map[api.Errno]int{api.ErrShape: 1, api.ErrTwice: 2, api.ErrNone: 3, api.ErrEntry: 4, api.OK: 5}[e]
}

// firstNamed is the error that is named first.
func firstNamed(l ...api.Errno) api.Errno {
	out := api.OK
	for _, e := range l {
		if rank(e) < rank(out) {
			out = e
		}
	}
	return out
}

// TestErrorsOfNames: P9.2 and R1, of two or three names that are wrong, in any order of theirs, with any main, the error that is named first is told.
func TestErrorsOfNames(t *testing.T) {
	mains := []fault{
		{"+main", api.OK}, {"~main", api.OK}, {"+main | -main", api.OK},
		{"+f", api.ErrEntry}, {"+main*", api.ErrEntry}, {"+main2", api.ErrEntry}, {"?main", api.ErrEntry}, {"=main", api.ErrEntry},
		{"-main", api.ErrNone}, {"-main*", api.ErrNone}, {"-main1", api.ErrNone},
		{"+main | +main", api.ErrTwice}, {"+main* | +main*", api.ErrTwice}, {"+main1 | +main1", api.ErrTwice},
		{"+main | ?main1", api.ErrShape}, {"-main | ?main*", api.ErrShape}, {"+main | +main*", api.ErrShape},
	}
	right := fault{"?ra | ~rb | -rc | +rc", api.OK}
	for _, main := range mains {
		for _, a := range append(faults("a"), right) {
			for _, b := range append(faults("b"), fault{"", api.OK}) {
				for _, text := range []string{
					main.text + "|" + a.text + "|" + b.text,
					a.text + "|" + main.text + "|" + b.text,
					b.text + "|" + a.text + "|" + main.text,
				} {
					want := firstNamed(main.e, a.e, b.e)
					if want != api.OK {
						expectError(t, text, want)
					}
				}
			}
		}
	}
}

// TestErrorsOfOneName: P9.2 and R1, of one name of which two things are wrong the error that is named first is told.
func TestErrorsOfOneName(t *testing.T) {
	for text, e := range map[string]api.Errno{
		"+main +f | +f*":           api.ErrShape, // and twice
		"+main +f | +f | ?f*":      api.ErrShape,
		"+main +f1 | +f2":          api.ErrShape,
		"+main +f* | +f* | -f":     api.ErrShape,
		"+main -f | -f*":           api.ErrShape, // and none
		"+main -f1 | ?f2":          api.ErrShape,
		"+main* | ?main":           api.ErrShape, // and no entry
		"?main1 | ?main":           api.ErrShape,
		"-main | -main*":           api.ErrShape, // and none, and no entry
		"+main1 | +main1 | -main2": api.ErrShape, // and twice, and no entry
		"+main1 | +main1":          api.ErrTwice, // and no entry
		"+main* | +main*":          api.ErrTwice,
		"-main":                    api.ErrNone, // and no entry
		"-main*":                   api.ErrNone,
		"-main3 | ?main3":          api.ErrNone,
	} {
		expectError(t, text, e)
	}
}
