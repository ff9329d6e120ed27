package rv_test

import (
	"fmt"
	"math"
	"testing"

	"marline/api"
	"marline/page"
)

// TestTrapPc: P3.2, a Pc that is no multiple of 4, though the instructions there could be done.
func TestTrapPc(t *testing.T) {
	m := machine()
	m.M = must(page.Fill(m.M, textAt, "\x93\x02\x90\x00\x93\x02\x90\x00\x93\x02"))
	for _, pc := range []uint64{textAt, textAt + 4} {
		m.Pc = pc
		expectStep(t, "a right Pc", m, behind(m, 5, 9))
	}
	for _, pc := range []uint64{textAt + 1, textAt + 2, textAt + 3, textAt + 5, textAt + 6, textAt + 7, math.MaxUint64, math.MaxUint64 - 1, math.MaxUint64 - 2} {
		m.Pc = pc
		expectTrap(t, fmt.Sprintf("Pc %#x", pc), m)
	}
	for _, off := range []uint64{1, 2, 3} { // an instruction stands right there
		m.Pc = allAt + off
		m.M = must(page.Fill(m.M, m.Pc, "\x93\x02\x90\x00"))
		expectTrap(t, fmt.Sprintf("an instruction at %#x", m.Pc), m)
	}
}

// TestTrapPage: P3.2, no page at Pc, or one that doesn't grant PX.
func TestTrapPage(t *testing.T) {
	const addi = "\x93\x02\x90\x00"
	for perm := range 8 {
		m := machine()
		m.M = must(page.Map(m.M, 65536, 1, perm))
		for _, pc := range []uint64{65536, 65536 + 252} {
			m.M = must(page.Fill(m.M, pc, addi))
			m.Pc = pc
			why := fmt.Sprintf("Pc %#x of a page with %d", pc, perm)
			if perm&api.PX == 0 {
				expectTrap(t, why, m)
			} else {
				expectStep(t, why, m, behind(m, 5, 9))
			}
		}
	}
	for _, pc := range []uint64{textAt - 4, textAt + 256, 1 << 20, 1 << 63, lastAt - 4} {
		m := machine()
		m.Pc = pc
		expectTrap(t, fmt.Sprintf("no page at %#x", pc), m)
	}
	empty := machine()
	empty.M = nil
	expectTrap(t, "no pages", empty)
}

// TestTrapMemory: P3.2, memory that isn't right: chapter 2 refuses to load.
func TestTrapMemory(t *testing.T) {
	good := machine(api.Op{Kind: api.KAddi, Rd: 5, Imm: 9})
	expectStep(t, "right memory", good, behind(good, 5, 9))
	for why, change := range map[string]func([]api.Page) []api.Page{
		"short bytes":  func(m []api.Page) []api.Page { m[2].Data = m[2].Data[:255]; return m },
		"a high perm":  func(m []api.Page) []api.Page { m[3].Perm = 8; return m },
		"an odd place": func(m []api.Page) []api.Page { m[4].At++; return m },
		"falling":      func(m []api.Page) []api.Page { m[3], m[4] = m[4], m[3]; return m },
		"twice":        func(m []api.Page) []api.Page { return append(m, m[len(m)-1]) },
	} {
		m := copied(good)
		m.M = change(m.M)
		expectTrap(t, why, m)
	}
}

// TestTrapWord: P3.2, words that are no instruction.
func TestTrapWord(t *testing.T) {
	for _, word := range []string{
		"\x00\x00\x00\x00", "\xff\xff\xff\xff", "\x73\x00\x10\x00", "\x93\x92\x02\x04", "\x33\x00\x00\x04", "\x03\x00\x00\x00", "\x0f\x00\x00\x00", "\x13\x20\x00\x00",
	} {
		m := machine()
		m.M = must(page.Fill(m.M, textAt, word))
		expectTrap(t, fmt.Sprintf("%x", word), m)
	}
}

// TestTrapMemoryUse: P3.2, loads and stores that are refused change nothing, whatever Rd is.
func TestTrapMemoryUse(t *testing.T) {
	for _, x := range []struct {
		why                 string
		at                  uint64
		load, store         bool // may 8 bytes there be loaded, stored?
		loadByte, storeByte bool // may one?
	}{
		{"data", dataAt, true, true, true, true},
		{"data's last", dataAt + 504, true, true, true, true},
		{"beyond data, seven there", dataAt + 505, false, false, true, true},
		{"beyond data, one there", dataAt + 511, false, false, true, true},
		{"behind data", dataAt + 512, false, false, false, false},
		{"ahead of data, one there", dataAt - 7, false, false, false, false},
		{"no page", 1 << 40, false, false, false, false},
		{"only instructions", textAt, false, false, false, false},
		{"only read", readAt, true, false, true, false},
		{"only written", writeAt, false, true, false, true},
		{"nothing granted", noneAt, false, false, false, false},
		{"all granted", allAt, true, true, true, true},
		{"the last eight places", math.MaxUint64 - 7, true, true, true, true},
		{"beyond the last place", math.MaxUint64 - 6, false, false, true, true},
		{"the last place", math.MaxUint64, false, false, true, true},
	} {
		for kind, may := range map[int]bool{api.KLd: x.load, api.KLbu: x.loadByte, api.KSd: x.store, api.KSb: x.storeByte} {
			o := api.Op{Kind: kind, A: 6, Imm: -5}
			for rd := range 3 {
				if kind == api.KLd || kind == api.KLbu {
					o.Rd = 3 * rd // 0, 3, and 6, which is A
				} else {
					o.B = 3 * rd
				}
				expectUse(t, x.why, o, x.at, may)
			}
		}
	}
}

// expectUse: a load or a store at at traps, or goes on.
func expectUse(t *testing.T, why string, o api.Op, at uint64, may bool) {
	t.Helper()
	m := machine(o)
	m.X[o.A] = at - uint64(o.Imm)
	why = fmt.Sprintf("%s: %+v", why, o)
	if !may {
		expectTrap(t, why, m)
		return
	}
	want := behind(m, 0, 0)
	n := 8
	if o.Kind == api.KLbu || o.Kind == api.KSb {
		n = 1
	}
	switch o.Kind {
	case api.KLd, api.KLbu:
		want = behind(m, o.Rd, must(page.Load(m.M, at, n, api.PR)))
	default:
		want.M = must(page.Store(m.M, at, n, m.X[o.B]))
	}
	expectStep(t, why, m, want)
}

// TestTrapBetween: P3.2, a store whose pages don't all grant PW stores nothing, and a load between pages likewise.
func TestTrapBetween(t *testing.T) {
	for _, x := range []struct {
		kind, first, second int
		traps               bool
	}{
		{api.KLd, api.PR, api.PR, false}, {api.KLd, api.PR, api.PW, true}, {api.KLd, api.PW, api.PR, true}, {api.KLd, 7, api.PX, true},
		{api.KSd, api.PW, api.PW, false}, {api.KSd, api.PW, api.PR, true}, {api.KSd, api.PR, api.PW, true}, {api.KSd, api.PX, 7, true},
	} {
		o := api.Op{Kind: x.kind, A: 6, Imm: 252}
		if x.kind == api.KLd {
			o.Rd = 5
		} else {
			o.B = 5
		}
		m := machine(o)
		m.M = mapped(mapped(m.M, 65536, x.first, 1), 65536+256, x.second, 2)
		m.X[6] = 65536
		want := trapped(m)
		if !x.traps && x.kind == api.KLd {
			want = behind(m, 5, 0x0504030200fffefd)
		} else if !x.traps {
			want = behind(m, 0, 0)
			want.M = must(page.Fill(m.M, 65536+252, "\x05\x05\x05\x05\x05\x05\x05\x05"))
		}
		expectStep(t, fmt.Sprintf("%+v, %d and %d", o, x.first, x.second), m, want)
	}
}
