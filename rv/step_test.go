package rv_test

import (
	"fmt"
	"math"
	"testing"

	"marline/api"
	"marline/enc"
	"marline/page"
	"marline/rv"
)

// TestStepRegisters: P3.2, kinds of three registers, all three the same or not, each of them 0 or not.
func TestStepRegisters(t *testing.T) {
	for kind, reckon := range reckoners() {
		for _, r := range [][3]int{{5, 6, 7}, {31, 1, 30}, {6, 6, 7}, {7, 6, 7}, {6, 6, 6}, {5, 0, 7}, {5, 6, 0}, {5, 0, 0}, {0, 6, 7}, {0, 0, 0}} {
			o := api.Op{Kind: kind, Rd: r[0], A: r[1], B: r[2]}
			for _, n := range [][2]uint64{{100, 7}, {7, 100}, {3, 0}, {0, 3}, {math.MaxUint64, 65}, {1 << 63, math.MaxUint64}} {
				m := machine(o)
				m.X[6], m.X[7] = n[0], n[1]
				v := round(reckon(whole(m.X[o.A]), whole(m.X[o.B])))
				expectStep(t, fmt.Sprintf("%+v of %d", o, n), m, behind(m, o.Rd, v))
			}
		}
	}
}

// TestStepImm: P3.2, kinds of two registers and Imm.
func TestStepImm(t *testing.T) {
	all := reckoners()
	for kind, as := range withImm {
		for _, imm := range []int64{0, 1, 5, 63, -1, -7, -2048, 2047} {
			for _, r := range [][2]int{{5, 6}, {6, 6}, {5, 0}, {0, 6}, {0, 0}, {31, 6}} {
				o := api.Op{Kind: kind, Rd: r[0], A: r[1], Imm: imm}
				if !enc.May(o) {
					continue
				}
				m := machine(o)
				m.X[6] = 0x0123456789abcdef
				v := round(all[as](whole(m.X[o.A]), whole(uint64(imm))))
				expectStep(t, fmt.Sprintf("%+v", o), m, behind(m, o.Rd, v))
			}
		}
	}
}

// TestStepUpper: P3.2, KLui and KAuipc.
func TestStepUpper(t *testing.T) {
	for _, imm := range []int64{0, 4096, -4096, 0x12345000, 1<<31 - 4096, -1 << 31} {
		for _, rd := range []int{0, 1, 9, 31} {
			m := machine(api.Op{Kind: api.KLui, Rd: rd, Imm: imm}, api.Op{Kind: api.KAuipc, Rd: rd, Imm: imm})
			expectStep(t, "KLui", m, behind(m, rd, uint64(imm)))
			m.Pc += 4
			expectStep(t, "KAuipc", m, behind(m, rd, 4100+uint64(imm)))
		}
	}
}

// TestStepLoads: P3.2, what is loaded.
func TestStepLoads(t *testing.T) {
	for _, x := range []struct {
		kind int
		a    uint64
		imm  int64
		want uint64
	}{
		{api.KLd, dataAt, 0, 0x0706050403020100},
		{api.KLd, dataAt, 1, 0x0807060504030201},
		{api.KLd, dataAt + 16, -8, 0x0f0e0d0c0b0a0908},
		{api.KLd, dataAt, 252, 0x83828180fffefdfc},
		{api.KLd, dataAt + 2040, -2040, 0x0706050403020100},
		{api.KLd, dataAt - 2047, 2047, 0x0706050403020100},
		{api.KLd, readAt, 248, 0x3f3e3d3c3b3a3938},
		{api.KLd, allAt, 0, 0x7776757473727170},
		{api.KLd, lastAt, 248, 0xbfbebdbcbbbab9b8},
		{api.KLd, math.MaxUint64 - 7, 0, 0xbfbebdbcbbbab9b8},
		{api.KLd, math.MaxUint64, 1, 0x3736353433323130},
		{api.KLd, 8, -16, 0xbfbebdbcbbbab9b8},
		{api.KLbu, dataAt, 0, 0},
		{api.KLbu, dataAt, 255, 0xff},
		{api.KLbu, dataAt, 256, 0x80},
		{api.KLbu, dataAt + 511, 0, 0x7f},
		{api.KLbu, dataAt + 600, -345, 0xff},
		{api.KLbu, readAt, 3, 0x43},
		{api.KLbu, math.MaxUint64, 0, 0xbf},
		{api.KLbu, 0, -1, 0xbf},
		{api.KLbu, math.MaxUint64, 2, 0x31},
	} {
		for _, r := range [][2]int{{5, 6}, {6, 6}, {31, 1}, {0, 6}} {
			o := api.Op{Kind: x.kind, Rd: r[0], A: r[1], Imm: x.imm}
			m := machine(o)
			m.X[o.A] = x.a
			expectStep(t, fmt.Sprintf("%+v with %#x", o, x.a), m, behind(m, o.Rd, x.want))
		}
	}
	m := machine(api.Op{Kind: api.KLbu, Rd: 5, A: 0, Imm: 2})
	expectStep(t, "KLbu by the register 0", m, behind(m, 5, 0x32))
}

// TestStepStores: P3.2, what is stored, and that all else of memory stays.
func TestStepStores(t *testing.T) {
	const full, low = "\xf8\xe7\xd6\xc5\xb4\xa3\x92\x81", "\xf8"
	for _, x := range []struct {
		kind int
		a    uint64
		imm  int64
		at   uint64
		want string
	}{
		{api.KSd, dataAt, 0, dataAt, full},
		{api.KSd, dataAt, 3, dataAt + 3, full},
		{api.KSd, dataAt + 8, -8, dataAt, full},
		{api.KSd, dataAt, 252, dataAt + 252, full},
		{api.KSd, dataAt, 504, dataAt + 504, full},
		{api.KSd, writeAt, 248, writeAt + 248, full},
		{api.KSd, allAt + 2048, -2048, allAt, full},
		{api.KSd, allAt - 2047, 2047, allAt, full},
		{api.KSd, math.MaxUint64, -7, math.MaxUint64 - 7, full},
		{api.KSd, math.MaxUint64, 1, 0, full},
		{api.KSd, 8, -16, math.MaxUint64 - 7, full},
		{api.KSb, dataAt, 0, dataAt, low},
		{api.KSb, dataAt + 1, 254, dataAt + 255, low},
		{api.KSb, dataAt + 512, -1, dataAt + 511, low},
		{api.KSb, writeAt, 1, writeAt + 1, low},
		{api.KSb, math.MaxUint64, 0, math.MaxUint64, low},
		{api.KSb, 0, -1, math.MaxUint64, low},
	} {
		o := api.Op{Kind: x.kind, A: 6, B: 7, Imm: x.imm}
		m := machine(o)
		m.X[6], m.X[7] = x.a, 0x8192a3b4c5d6e7f8
		want := behind(m, 0, 0)
		want.M = must(page.Fill(m.M, x.at, x.want))
		expectStep(t, fmt.Sprintf("%+v with %#x", o, x.a), m, want)
	}
}

// TestStepStoresRegisters: P3.2, which registers a store uses.
func TestStepStoresRegisters(t *testing.T) {
	nought := machine(api.Op{Kind: api.KSd, A: 6, B: 0, Imm: 8})
	nought.X[6] = dataAt
	want := behind(nought, 0, 0)
	want.M = must(page.Fill(nought.M, dataAt+8, "\x00\x00\x00\x00\x00\x00\x00\x00"))
	expectStep(t, "of the register 0", nought, want)
	by := machine(api.Op{Kind: api.KSb, A: 0, B: 9, Imm: 16})
	want = behind(by, 0, 0)
	want.M = must(page.Fill(by.M, 16, "\x09"))
	expectStep(t, "by the register 0", by, want)
	same := machine(api.Op{Kind: api.KSd, A: 31, B: 31})
	same.X[31] = dataAt
	want = behind(same, 0, 0)
	want.M = must(page.Fill(same.M, dataAt, "\x00\x20\x00\x00\x00\x00\x00\x00"))
	expectStep(t, "of the place itself", same, want)
}

// TestStepBranches: P3.2, branches that go, and such that don't.
func TestStepBranches(t *testing.T) {
	for _, x := range []struct {
		kind int
		a, b uint64
		goes bool
	}{
		{api.KBeq, 5, 5, true}, {api.KBeq, 5, 6, false},
		{api.KBne, 5, 6, true}, {api.KBne, 5, 5, false},
		{api.KBltu, 5, math.MaxUint64, true}, {api.KBltu, math.MaxUint64, 5, false}, {api.KBltu, 5, 5, false},
		{api.KBgeu, math.MaxUint64, 5, true}, {api.KBgeu, 5, 5, true}, {api.KBgeu, 5, math.MaxUint64, false},
	} {
		for _, imm := range []int64{0, 2, 8, 12, -4, -8, -4096, 4094} {
			o := api.Op{Kind: x.kind, A: 6, B: 7, Imm: imm}
			m := machine(o)
			m.X[6], m.X[7] = x.a, x.b
			want := behind(m, 0, 0)
			if x.goes {
				want.Pc = textAt + uint64(imm)
			}
			expectStep(t, fmt.Sprintf("%+v of %d and %d", o, x.a, x.b), m, want)
		}
	}
	zero := machine(api.Op{Kind: api.KBeq, Imm: 16})
	want := behind(zero, 0, 0)
	want.Pc = textAt + 16
	expectStep(t, "the register 0 twice", zero, want)
}

// TestStepJumps: P3.2, KJal: Rd is the next place, Pc is Pc and Imm.
func TestStepJumps(t *testing.T) {
	for _, rd := range []int{0, 1, 31} {
		for _, imm := range []int64{0, 2, 4, 8, -4, -6, -4096, 1<<20 - 2, -1 << 20} {
			m := machine(api.Op{Kind: api.KJal, Rd: rd, Imm: imm})
			want := behind(m, rd, textAt+4)
			want.Pc = textAt + uint64(imm)
			expectStep(t, fmt.Sprintf("KJal to %d, register %d", imm, rd), m, want)
		}
	}
}

// TestStepJumpsBack: P3.2, KJalr: Pc is a and Imm, even; a is that of before, also where Rd is A.
func TestStepJumpsBack(t *testing.T) {
	for _, x := range []struct {
		a    uint64
		imm  int64
		want uint64
	}{
		{dataAt, 0, dataAt}, {dataAt, 4, dataAt + 4}, {dataAt, -4, dataAt - 4},
		{dataAt, 1, dataAt}, {dataAt, 3, dataAt + 2}, {dataAt + 1, 0, dataAt}, {dataAt + 1, 1, dataAt + 2}, {dataAt + 1, -1, dataAt},
		{dataAt, -1, dataAt - 2}, {dataAt, -2048, dataAt - 2048}, {dataAt, 2047, dataAt + 2046},
		{math.MaxUint64, 0, math.MaxUint64 - 1}, {math.MaxUint64, 1, 0}, {math.MaxUint64, 2, 0}, {0, -1, math.MaxUint64 - 1}, {0, 0, 0}, {1, 0, 0},
	} {
		for _, r := range [][2]int{{0, 6}, {5, 6}, {6, 6}, {1, 31}} {
			o := api.Op{Kind: api.KJalr, Rd: r[0], A: r[1], Imm: x.imm}
			m := machine(o)
			m.X[o.A] = x.a
			want := behind(m, o.Rd, textAt+4)
			want.Pc = x.want
			expectStep(t, fmt.Sprintf("%+v with %#x", o, x.a), m, want)
		}
	}
	m := machine(api.Op{Kind: api.KJalr, Rd: 5, A: 0, Imm: 16})
	want := behind(m, 5, textAt+4)
	want.Pc = 16
	expectStep(t, "KJalr by the register 0", m, want)
}

// TestStepLastPlace: P3.2, R5: the last instruction of all places; places and steps go round.
func TestStepLastPlace(t *testing.T) {
	const pc = math.MaxUint64 - 3
	for _, x := range []struct {
		o        api.Op
		to, gets uint64
	}{
		{api.Op{Kind: api.KAddi, Rd: 5, Imm: 9}, 0, 9},
		{api.Op{Kind: api.KAuipc, Rd: 5, Imm: 4096}, 0, 4092},
		{api.Op{Kind: api.KJal, Rd: 5, Imm: 8}, 4, 0},
		{api.Op{Kind: api.KJal, Rd: 5, Imm: -8}, pc - 8, 0},
		{api.Op{Kind: api.KJalr, Rd: 5, A: 0, Imm: -4}, pc, 0},
	} {
		m := machine()
		m.M = must(page.Fill(m.M, pc, must(enc.Bytes([]api.Op{x.o}))))
		m.Pc, m.Steps = pc, math.MaxUint64
		want := behind(m, 5, x.gets)
		want.Pc, want.Steps = x.to, 0
		expectStep(t, fmt.Sprintf("%+v at the last place", x.o), m, want)
	}
	branch := machine()
	branch.M = must(page.Fill(branch.M, pc, must(enc.Bytes([]api.Op{{Kind: api.KBeq, Imm: 16}}))))
	branch.Pc = pc
	want := behind(branch, 0, 0)
	want.Pc = 12
	expectStep(t, "KBeq at the last place", branch, want)
}

// TestStepRegisterNought: the register 0 is always 0, also where a machine was handed in that has it otherwise.
func TestStepRegisterNought(t *testing.T) {
	m := machine(api.Op{Kind: api.KAddi, Rd: 5, Imm: 3}, api.Op{Kind: api.KAdd, Rd: 6, A: 0, B: 0})
	want := behind(m, 5, 3)
	m.X[0] = 9
	expectStep(t, "KAddi", m, want)
	m.Pc, want.Pc = m.Pc+4, want.Pc+4
	want.X[5], want.X[6] = m.X[5], 0
	expectStep(t, "KAdd", m, want)
}

// TestStepWritesInstructions: P3.2, instructions that were stored are done.
func TestStepWritesInstructions(t *testing.T) {
	m := machine()
	store := api.Op{Kind: api.KSd, A: 6, B: 7, Imm: 4}
	m.M = must(page.Fill(m.M, allAt, must(enc.Bytes([]api.Op{store}))))
	two := must(enc.Bytes([]api.Op{{Kind: api.KAddi, Rd: 9, Imm: 21}, {Kind: api.KSub, Rd: 8, A: 9, B: 9}}))
	m.Pc, m.X[6], m.X[7] = allAt, allAt, 0
	for i := range len(two) {
		m.X[7] |= uint64(two[i]) << (8 * i)
	}
	want := m
	want.Steps, want.Pc = m.Steps+3, allAt+12
	want.M = must(page.Fill(m.M, allAt+4, two))
	want.X[9], want.X[8] = 21, 0
	expectRun(t, "a store of two instructions", m, 3, want)
}

// TestExample: the chapter's example.
func TestExample(t *testing.T) {
	m := api.Mach{Pc: textAt, M: memory(api.Op{Kind: api.KAddi, Rd: 17, Imm: 93}, api.Op{Kind: api.KAddi, Rd: 10, Imm: 7}, api.Op{Kind: api.KEcall})}
	k := rv.Step(rv.Step(m))
	if k.State != api.MRuns || k.Steps != 2 {
		t.Errorf("%d after %d steps", k.State, k.Steps)
	}
	k = rv.Step(k)
	if k.State != api.MEnds || k.Code != 7 || k.Steps != 3 {
		t.Errorf("%d with %d after %d steps", k.State, k.Code, k.Steps)
	}
}
