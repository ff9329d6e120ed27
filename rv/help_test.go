package rv_test

import (
	"fmt"
	"math"
	"slices"
	"testing"

	"marline/api"
	"marline/enc"
	"marline/page"
	"marline/rv"
)

// Where the test's machines have what: instructions, bytes that may be read and written (two pages), only read, only written, nothing, all.
const (
	textAt  uint64 = 4096
	dataAt  uint64 = 8192
	readAt  uint64 = 9216
	writeAt uint64 = 10240
	noneAt  uint64 = 11264
	allAt   uint64 = 12288
	lastAt  uint64 = math.MaxUint64 - 255
)

const readWrite = api.PR | api.PW

// edges are numbers that are of interest to all that reckons.
var edges = []uint64{
	0, 1, 2, 3, 5, 7, 8, 10, 63, 64, 65, 127, 128, 129, 255, 256, 2047, 2048, 4096, 0x0123456789abcdef, 0xfedcba9876543210,
	1<<31 - 1, 1 << 31, 1<<32 - 1, 1 << 32, 1<<32 + 1, 1<<63 - 1, 1 << 63, 1<<63 + 1,
	math.MaxUint64 - 4095, math.MaxUint64 - 2047, math.MaxUint64 - 64, math.MaxUint64 - 63, math.MaxUint64 - 1, math.MaxUint64,
}

// must is v, where no error may be.
func must[V any](v V, e api.Errno) V {
	if e != api.OK {
		panic(fmt.Sprint("refused with ", e))
	}
	return v
}

// mapped is a page whose byte k is first and k.
func mapped(m []api.Page, at uint64, perm int, first byte) []api.Page {
	m = must(page.Map(m, at, 1, perm))
	data := make([]byte, 256)
	for k := range data {
		data[k] = first + byte(k)
	}
	return must(page.Fill(m, at, string(data)))
}

// memory are the pages of the test's machines, with these instructions at textAt.
func memory(ops ...api.Op) []api.Page {
	m := mapped(nil, 0, readWrite, 0x30)
	m = must(page.Map(m, textAt, 1, api.PX))
	m = mapped(m, dataAt, readWrite, 0)
	m = mapped(m, dataAt+256, readWrite, 0x80)
	m = mapped(m, readAt, api.PR, 0x40)
	m = mapped(m, writeAt, api.PW, 0x50)
	m = mapped(m, noneAt, 0, 0x60)
	m = mapped(m, allAt, 7, 0x70)
	m = mapped(m, lastAt, 7, 0xc0)
	return must(page.Fill(m, textAt, must(enc.Bytes(ops))))
}

// machine is one at textAt with these instructions. All that it has is of its own kind, so that whatever is changed is seen.
func machine(ops ...api.Op) api.Mach {
	m := api.Mach{Pc: textAt, M: memory(ops...), In: "to read", Out: "written", Code: 77, Steps: 1000}
	for i := range m.X {
		m.X[i] = uint64(i) * 0x0101010101010101
	}
	return m
}

// copied is a machine whose memory is its own.
func copied(m api.Mach) api.Mach {
	m.M = slices.Clone(m.M)
	return m
}

// trapped is what a machine that can't go on becomes.
func trapped(m api.Mach) api.Mach {
	m.State = api.MTrap
	m.Steps++
	return m
}

// behind is what a machine becomes by an instruction that gives v to Rd, and nothing else.
func behind(m api.Mach, rd int, v uint64) api.Mach {
	m.Steps++
	m.Pc += 4
	if rd != 0 {
		m.X[rd] = v
	}
	return m
}

// others tells in what two machines are not the same.
func others(got, want api.Mach) string {
	s := ""
	tell := func(what string, a, b any) {
		if a != b {
			s += fmt.Sprintf(" %s %#v, not %#v;", what, a, b)
		}
	}
	for i := range got.X {
		tell(fmt.Sprint("register ", i), got.X[i], want.X[i])
	}
	tell("Pc", got.Pc, want.Pc)
	tell("In", got.In, want.In)
	tell("Out", got.Out, want.Out)
	tell("State", got.State, want.State)
	tell("Code", got.Code, want.Code)
	tell("Steps", got.Steps, want.Steps)
	tell("pages", len(got.M), len(want.M))
	for i := range min(len(got.M), len(want.M)) {
		tell(fmt.Sprint("page ", i), got.M[i], want.M[i])
	}
	return s
}

// expectMach: two machines are the same.
func expectMach(t *testing.T, why string, got, want api.Mach) {
	t.Helper()
	if s := others(got, want); s != "" {
		t.Errorf("%s:%s", why, s)
	}
}

// expectCall: a call makes want of m; m stays as it was, and shares no memory with what comes out.
func expectCall(t *testing.T, why string, do func(api.Mach) api.Mach, m, want api.Mach) {
	t.Helper()
	// A page behind the list's end: a call that appends to what it was handed would write there.
	whole := append(slices.Clone(m.M), api.Page{At: 3})
	before := slices.Clone(whole)
	in := m
	in.M = whole[:len(m.M)]
	got := do(in)
	expectMach(t, why, got, want)
	for i := range got.M {
		got.M[i] = api.Page{At: 1}
	}
	if !slices.Equal(whole, before) {
		t.Errorf("%s: what was handed in was written into, or shares memory with what comes out", why)
	}
}

// expectStep: Step makes want of m.
func expectStep(t *testing.T, why string, m, want api.Mach) {
	t.Helper()
	expectCall(t, why, rv.Step, m, want)
}

// expectTrap: Step of m traps.
func expectTrap(t *testing.T, why string, m api.Mach) {
	t.Helper()
	expectStep(t, why, m, trapped(m))
}

// expectRun: Run of n steps makes want of m.
func expectRun(t *testing.T, why string, m api.Mach, n int, want api.Mach) {
	t.Helper()
	expectCall(t, why, func(m api.Mach) api.Mach { return rv.Run(m, n) }, m, want)
}
