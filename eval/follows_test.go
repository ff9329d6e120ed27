package eval_test

import (
	"fmt"
	"strings"
	"testing"

	"marline/api"
	"marline/eval"
)

// runs are modules, and what they are handed: ordinary ones, and some of all sorts.
func runs() []runRow {
	rows := []runRow{
		{why: "the document's", m: seven()},
		{why: "a step of each kind", m: sorts(), in: "abc"},
		{why: "echo", m: echo(), in: "echo\x00\xff"},
		{why: "echo of nothing", m: echo()},
		{why: "calls", m: factorial(9), in: "not read"},
		{why: "nothing but calls", m: module(line("main", call("main"))), in: "not read"},
		{why: "a loop of nothing", m: module(function("main", block(0, jump(0)))), in: "not read"},
		{why: "a loop that writes", m: module(function("main", block(0, jump(0), read(), write(0)))), in: strings.Repeat("abc", 20)},
	}
	for start := range 1000 {
		r := random(start + 1<<40)
		rows = append(rows, runRow{why: fmt.Sprint("random ", start), m: r.module(), in: r.input() + "more"})
	}
	return rows
}

// TestFollowsFuel: P7.4, with more fuel a run does the same, and maybe more: with each fuel up to its end, and some behind it.
func TestFollowsFuel(t *testing.T) {
	told := map[api.Errno]int{}
	for _, x := range runs() {
		last, e := eval.Run(x.m, x.in, 100, 4)
		told[e]++
		var k api.Trace // that of one step fewer
		for fuel := range last.Steps + 1 {
			w, we := eval.Run(x.m, x.in, fuel, 4)
			if fuel < last.Steps && (we != api.ErrFuel || w.Ended || w.Code != 0) || w.Steps != fuel {
				t.Fatalf("%s: with fuel %d: %s, %d, though it goes on to %s", x.why, fuel, shown(w), we, shown(last))
			}
			if !strings.HasPrefix(w.Out, k.Out) || len(w.Out) > len(k.Out)+1 || w.Read < k.Read || w.Read > k.Read+1 || w.Deep < k.Deep || w.Deep > k.Deep+1 {
				t.Fatalf("%s: with fuel %d: %s, and with one less: %s", x.why, fuel, shown(w), shown(k))
			}
			k = w
		}
		if k != last {
			t.Fatalf("%s: with just its fuel: %s, not %s", x.why, shown(k), shown(last))
		}
		for _, fuel := range []int{101, 102, 1000, 99999, 100000} {
			w, we := eval.Run(x.m, x.in, fuel, 4)
			if e != api.ErrFuel && (w != last || we != e) || !strings.HasPrefix(w.Out, last.Out) || w.Read < last.Read || w.Steps < last.Steps || w.Deep < last.Deep {
				t.Fatalf("%s: with fuel %d: %s, %d, not %s, %d", x.why, fuel, shown(w), we, shown(last), e)
			}
		}
	}
	for _, e := range []api.Errno{api.OK, api.ErrFuel, api.ErrDeep} {
		if told[e] < 50 {
			t.Errorf("%d of these answer %d", told[e], e)
		}
	}
}

// TestFollowsUnread: P7.4, bytes of in that weren't read don't matter: others, more, fewer, or none.
func TestFollowsUnread(t *testing.T) {
	left := 0
	for _, x := range runs() {
		for _, fuel := range []int{0, 1, 2, 5, 10, 30, 1000} {
			want, e := eval.Run(x.m, x.in, fuel, 4)
			if want.Read == len(x.in) {
				continue // it may have asked for one more
			}
			left++
			for _, rest := range []string{"", "\x00", "other bytes", x.in, strings.Repeat("\xff", 500)} {
				if w, we := eval.Run(x.m, x.in[:want.Read]+rest, fuel, 4); w != want || we != e {
					t.Fatalf("%s: with other bytes unread: %s, %d, not %s, %d", x.why, shown(w), we, shown(want), e)
				}
			}
		}
	}
	if left < 2500 {
		t.Errorf("%d runs left bytes unread", left)
	}
}

// TestFollowsDeep: P7.3, what is granted beyond the calls that are open at one time doesn't matter.
func TestFollowsDeep(t *testing.T) {
	for _, x := range runs() {
		want, e := eval.Run(x.m, x.in, 200, 64)
		if e == api.ErrDeep {
			continue
		}
		expectRun(t, x.why+", just as deep", x.m, x.in, 200, want.Deep, want, e)
		if want.Deep > 1 {
			w, we := eval.Run(x.m, x.in, 200, want.Deep-1)
			if we != api.ErrDeep || w.Deep != want.Deep-1 || !strings.HasPrefix(want.Out, w.Out) || w.Steps > want.Steps || w.Read > want.Read {
				t.Fatalf("%s: not quite so deep: %s, %d, not of %s", x.why, shown(w), we, shown(want))
			}
		}
	}
}
