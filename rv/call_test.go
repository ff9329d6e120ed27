package rv_test

import (
	"fmt"
	"math"
	"strings"
	"testing"

	"marline/api"
)

// caller is a machine that calls, with that in the registers 17 and 10.
func caller(number, value uint64) api.Mach {
	m := machine(api.Op{Kind: api.KEcall})
	m.X[17], m.X[10] = number, value
	return m
}

// TestCallRead: P3.2, the first byte of In, which is taken off, or 256.
func TestCallRead(t *testing.T) {
	for _, x := range []struct {
		in   string
		want uint64
		left string
	}{
		{"abc", 'a', "bc"}, {"a", 'a', ""}, {"", 256, ""}, {"\x00", 0, ""}, {"\xff\x00", 255, "\x00"}, {"\xc3\xa4", 0xc3, "\xa4"}, {"\n\n", 10, "\n"},
	} {
		for _, old := range []uint64{0, 5, math.MaxUint64} {
			m := caller(63, old)
			m.In = x.in
			want := behind(m, 10, x.want)
			want.In = x.left
			expectStep(t, fmt.Sprintf("reading %q", x.in), m, want)
		}
	}
}

// TestCallWrite: P3.2, the lowest byte stands behind Out.
func TestCallWrite(t *testing.T) {
	for value, text := range map[uint64]string{
		'a': "a", 0: "\x00", 255: "\xff", 256: "\x00", 256 + 'b': "b", 0xe4: "\xe4", math.MaxUint64: "\xff", 0x6162636465666768: "h", 1 << 63: "\x00",
	} {
		for _, out := range []string{"", "so far", "\xc3", "\x00"} {
			m := caller(64, value)
			m.Out = out
			want := behind(m, 0, 0)
			want.Out = out + text
			expectStep(t, fmt.Sprintf("writing %#x behind %q", value, out), m, want)
		}
	}
}

// TestCallExit: P3.2, the machine ends with register 10; Pc stays.
func TestCallExit(t *testing.T) {
	for _, code := range append([]uint64{42}, edges...) {
		m := caller(93, code)
		want := m
		want.State, want.Code, want.Steps = api.MEnds, code, m.Steps+1
		expectStep(t, fmt.Sprint("ending with ", code), m, want)
		expectStep(t, "behind the end", want, want)
	}
}

// TestCallOther: P3.2, any other number traps.
func TestCallOther(t *testing.T) {
	numbers := append([]uint64{62, 65, 92, 94, 9, 64 << 8, 1<<8 + 63, 1<<32 + 63, 1<<32 + 64, 1<<63 + 93, math.MaxUint64 - 62}, edges...)
	for _, number := range numbers {
		if number == 63 || number == 64 || number == 93 {
			continue
		}
		expectTrap(t, fmt.Sprint("the call ", number), caller(number, 7))
	}
}

// TestCallsCopy: P3.2, a machine that writes what it reads, till nothing is left.
func TestCallsCopy(t *testing.T) {
	m := machine(
		api.Op{Kind: api.KAddi, Rd: 17, Imm: 63},
		api.Op{Kind: api.KEcall},
		api.Op{Kind: api.KAddi, Rd: 5, Imm: 256},
		api.Op{Kind: api.KBeq, A: 10, B: 5, Imm: 16},
		api.Op{Kind: api.KAddi, Rd: 17, Imm: 64},
		api.Op{Kind: api.KEcall},
		api.Op{Kind: api.KJal, Imm: -24},
		api.Op{Kind: api.KAddi, Rd: 17, Imm: 93},
		api.Op{Kind: api.KEcall},
	)
	for _, in := range []string{"", "x", "all of it", "\x00\xff\x80", strings.Repeat("much ", 100)} {
		m.In = in
		want := m
		want.In, want.Out = "", m.Out+in
		want.State, want.Code, want.Pc = api.MEnds, 256, textAt+32
		want.Steps += uint64(7*len(in) + 6)
		want.X[17], want.X[10], want.X[5] = 93, 256, 256
		expectRun(t, fmt.Sprintf("copying %q", in), m, 7*len(in)+6, want)
		expectRun(t, fmt.Sprintf("copying %q, with time left", in), m, math.MaxInt, want)
	}
}
