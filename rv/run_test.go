package rv_test

import (
	"fmt"
	"math"
	"testing"

	"marline/api"
	"marline/rv"
)

// counter is a machine that counts in memory and in register 5, writes each number, and goes on so for ever.
func counter() api.Mach {
	m := machine(
		api.Op{Kind: api.KAddi, Rd: 5, A: 5, Imm: 1},
		api.Op{Kind: api.KSd, A: 6, B: 5, Imm: 4},
		api.Op{Kind: api.KAddi, Rd: 10, A: 5},
		api.Op{Kind: api.KEcall},
		api.Op{Kind: api.KJal, Rd: 1, Imm: -16},
	)
	m.X[5], m.X[6], m.X[17] = 64, dataAt+250, api.CWrite
	return m
}

// TestRunNone: P3.3, n below 1: no step is made, whatever the machine is.
func TestRunNone(t *testing.T) {
	ended, trap := counter(), counter()
	ended.State, trap.State = api.MEnds, api.MTrap
	for _, n := range []int{0, -1, -2, -100, math.MinInt, math.MinInt + 1} {
		for _, m := range []api.Mach{counter(), ended, trap, {}, {X: [32]uint64{9}, Out: "out"}} {
			expectRun(t, fmt.Sprint("no steps: ", n), m, n, m)
		}
	}
}

// TestRunSteps: P3.3, n steps are n times Step.
func TestRunSteps(t *testing.T) {
	m := counter()
	want := copied(m)
	for n := range 100 {
		expectRun(t, fmt.Sprint(n, " steps"), m, n, want)
		if want.Steps != m.Steps+uint64(n) || want.State != api.MRuns {
			t.Fatalf("%d steps are %d", n, want.Steps-m.Steps)
		}
		want = rv.Step(want)
	}
	if want.Out != "writtenABCDEFGHIJKLMNOPQRST" {
		t.Errorf("%q was written", want.Out)
	}
	far := rv.Run(m, 100000)
	if far.Steps != m.Steps+100000 || far.X[5] != 20064 || len(far.Out) != 20007 || far.Pc != textAt {
		t.Errorf("%d steps, %d, %d bytes, Pc %d", far.Steps, far.X[5], len(far.Out), far.Pc)
	}
}

// TestRunApart: P3.3, two runs one behind the other are one.
func TestRunApart(t *testing.T) {
	m := counter()
	for n := range 24 {
		expectRun(t, fmt.Sprint(n, " steps, and the rest"), rv.Run(m, n), 23-n, rv.Run(m, max(n, 23)))
	}
}

// TestRunEnds: P3.3, a machine that ends makes no more steps than there are to make.
func TestRunEnds(t *testing.T) {
	m := machine(api.Op{Kind: api.KAddi, Rd: 17, Imm: 93}, api.Op{Kind: api.KAddi, Rd: 10, Imm: -7}, api.Op{Kind: api.KEcall})
	want := m
	want.X[17] = 93
	want.Steps, want.Pc = m.Steps+1, textAt+4
	expectRun(t, "one step", m, 1, want)
	want.X[10] = math.MaxUint64 - 6
	want.Steps, want.Pc = m.Steps+2, textAt+8
	expectRun(t, "two steps", m, 2, want)
	want.Steps, want.State, want.Code = m.Steps+3, api.MEnds, math.MaxUint64-6
	for _, n := range []int{3, 4, 5, 1000, math.MaxInt} {
		expectRun(t, fmt.Sprint(n, " steps"), m, n, want)
	}
}

// TestRunTraps: P3.3, a machine that traps stays so; what was done before is done.
func TestRunTraps(t *testing.T) {
	m := machine(api.Op{Kind: api.KEcall}, api.Op{Kind: api.KAddi, Rd: 5, Imm: 3}, api.Op{Kind: api.KLd, Rd: 5, A: 0, Imm: 256})
	m.X[17], m.X[10] = api.CWrite, '!'
	want := m
	want.Out, want.X[5] = "written!", 3
	want.Pc, want.Steps, want.State = textAt+8, m.Steps+3, api.MTrap
	for _, n := range []int{3, 4, 100, math.MaxInt} {
		expectRun(t, fmt.Sprint(n, " steps"), m, n, want)
	}
}
