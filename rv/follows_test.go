package rv_test

import (
	"fmt"
	"math"
	"strings"
	"testing"

	"marline/api"
	"marline/enc"
	"marline/page"
	"marline/rv"
)

// row is a row's next number: each row of them is always the same.
type row uint64

// below is a number below n.
func (r *row) below(n uint64) uint64 {
	*r = *r*6364136223846793005 + 1442695040888963407
	return uint64(*r>>33) % n
}

// op is some instruction that may be; those that stay within a few places, and calls, are frequent.
func (r *row) op() api.Op {
	for {
		o := api.Op{Kind: int(r.below(31)) + 1, Rd: int(r.below(12)), A: int(r.below(12)), B: int(r.below(12)), Imm: int64(r.below(64)) - 24}
		switch o.Kind {
		case api.KSd, api.KSb:
			o.Rd = 0
		case api.KBeq, api.KBne, api.KBltu, api.KBgeu:
			o.Rd, o.Imm = 0, o.Imm&^3
		case api.KLui, api.KAuipc:
			o.A, o.B, o.Imm = 0, 0, o.Imm*4096
		case api.KJal:
			o.A, o.B, o.Imm = 0, 0, o.Imm&^3
		case api.KEcall:
			o = api.Op{Kind: api.KEcall}
		default:
			o.B = 0
		}
		if o.Kind <= api.KRemu {
			o.B, o.Imm = int(r.below(12)), 0
		}
		if enc.May(o) {
			return o
		}
	}
}

// machine is one with a page of some instructions, that may be written or not, and registers that lead to places.
func (r *row) machine() api.Mach {
	var l []api.Op
	for range 64 {
		l = append(l, r.op())
	}
	m := machine(l...)
	places := []uint64{0, 1, 8, textAt, textAt + 64, dataAt, dataAt + 252, readAt, writeAt, allAt, math.MaxUint64 - 9, lastAt}
	for i := range m.X {
		m.X[i] = places[r.below(uint64(len(places)))]
	}
	m.X[0] = 0
	m.X[17] = []uint64{api.CRead, api.CWrite, api.CWrite, api.CRead, api.CExit, 7}[r.below(6)]
	m.Pc = textAt + 4*r.below(64)
	return m
}

// samePlaces: are there the same pages, with the same that they grant?
func samePlaces(a, b []api.Page) bool {
	if len(a) != len(b) {
		return false
	}
	for i := range a {
		if a[i].At != b[i].At || a[i].Perm != b[i].Perm {
			return false
		}
	}
	return true
}

// expectFollows: what holds of each step.
func expectFollows(t *testing.T, m, k api.Mach) {
	t.Helper()
	why := ""
	switch {
	case m.State != api.MRuns && others(k, m) != "":
		why = "who ended did more"
	case m.State == api.MRuns && k.Steps != m.Steps+1:
		why = "a step isn't one"
	case k.X[0] != 0:
		why = "the register 0 isn't 0"
	case !strings.HasPrefix(k.Out, m.Out) || len(k.Out) > len(m.Out)+1:
		why = "what was written didn't stay"
	case !strings.HasSuffix(m.In, k.In) || len(k.In)+1 < len(m.In):
		why = "what is to be read was changed"
	case !samePlaces(k.M, m.M) || !page.Right(k.M):
		why = "the pages aren't where they were"
	case k.State == api.MRuns && k.Code != m.Code:
		why = "a code without an end"
	case k.State == api.MTrap && m.State == api.MRuns && others(k, trapped(m)) != "":
		why = "a trap changed more"
	}
	if why != "" {
		t.Fatalf("%s: at %d:%s", why, m.Pc, others(k, m))
	}
}

// TestFollows: P3.4, in rows of steps of machines of all sorts, which end, trap, and go on.
func TestFollows(t *testing.T) {
	ends := map[int]int{}
	for start := range 3000 {
		r := row(start)
		first := r.machine()
		m := copied(first)
		for n := range 60 {
			k := rv.Step(m)
			expectFollows(t, m, k)
			m = k
			if n%10 == 9 {
				expectRun(t, fmt.Sprint("start ", start), first, n+1, m)
			}
		}
		ends[m.State]++
	}
	for state, name := range []string{"go on", "end", "trap"} {
		if ends[state] < 20 {
			t.Errorf("too few of the machines %s: %d", name, ends[state])
		}
	}
}

// TestEndedStays: P3.4, a machine that isn't MRuns stays all that it is, whatever its parts are.
func TestEndedStays(t *testing.T) {
	for _, state := range []int{api.MEnds, api.MTrap, 3, -1, math.MaxInt, math.MinInt, 1 << 32} {
		m := machine(api.Op{Kind: api.KAddi, Rd: 5, Imm: 9})
		m.State = state
		wrong := m
		wrong.M = []api.Page{{At: 5, Perm: 9}, {At: 5}}
		wrong.X[0], wrong.Pc = 8, 3
		for _, k := range []api.Mach{m, wrong} {
			expectStep(t, fmt.Sprint("the state ", state), k, k)
			expectRun(t, fmt.Sprint("the state ", state), k, 7, k)
		}
	}
}
