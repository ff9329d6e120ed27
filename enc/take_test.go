package enc_test

import (
	"testing"

	"marline/api"
	"marline/enc"
)

// isWord: has a word an instruction? Told by the document's list alone.
func isWord(w uint32) bool {
	f3, f7 := w>>12&7, w>>25
	switch w & 0x7f {
	case 0x33:
		switch f7 {
		case 0x00:
			return f3 != 2
		case 0x20:
			return f3 == 0
		case 0x01:
			return f3 == 0 || f3 == 5 || f3 == 7
		}
	case 0x13:
		if f3 == 1 || f3 == 5 {
			return w>>26 == 0
		}
		return f3 != 2
	case 0x03:
		return f3 == 3 || f3 == 4
	case 0x67:
		return f3 == 0
	case 0x23:
		return f3 == 0 || f3 == 3
	case 0x63:
		return f3 == 0 || f3 == 1 || f3 == 6 || f3 == 7
	case 0x37, 0x17, 0x6f:
		return true
	case 0x73:
		return w == 0x73
	}
	return false
}

// expectTake holds Take of a word against the document's list.
func expectTake(t *testing.T, w uint32) {
	t.Helper()
	o, e := enc.Take(w)
	if !isWord(w) {
		if o != (api.Op{}) || e != api.ErrOp {
			t.Fatalf("Take(%08x) = %+v, %d, not nothing and ErrOp", w, o, e)
		}
		return
	}
	if e != api.OK || !enc.May(o) {
		t.Fatalf("Take(%08x) = %+v, %d: it may not be", w, o, e)
	}
	if v, e := enc.Word(o); v != w || e != api.OK {
		t.Fatalf("Take(%08x) = %+v, whose word is %08x, %d", w, o, v, e)
	}
}

// TestTakeSweep: P1.1, every opcode with every f3 and f7, with registers of several sorts.
func TestTakeSweep(t *testing.T) {
	middles := []uint32{0, 1<<7 | 1<<20, 31<<7 | 31<<15 | 31<<20, 10<<7 | 21<<15 | 5<<20}
	for opcode := uint32(0); opcode < 1<<7; opcode++ {
		for f3 := uint32(0); f3 < 1<<3; f3++ {
			for f7 := uint32(0); f7 < 1<<7; f7++ {
				for _, middle := range middles {
					expectTake(t, f7<<25|f3<<12|opcode|middle)
				}
			}
		}
	}
}

// TestTakeBits: P1.1, words that are one or two bits from one that is right.
func TestTakeBits(t *testing.T) {
	for _, x := range wordRows {
		for i := range 32 {
			for j := range 32 {
				expectTake(t, x.w^1<<i^1<<j)
			}
		}
	}
}

// TestTakeRefuses: P1.1, words of the manual's that are none here, and of nothing at all.
func TestTakeRefuses(t *testing.T) {
	for _, w := range []uint32{
		0x00000000, 0xffffffff, 0x80000000, 0x00000001,
		0x00100073,                                     // ebreak
		0x000000f3, 0x00008073, 0x00001073, 0x80000073, // KEcall with other bits
		0x00000003, 0x00001003, 0x00002003, 0x00005003, 0x00006003, 0x00007003, // loads of other sizes
		0x00001023, 0x00002023, 0x00004023, // stores of other sizes
		0x00002033, // slt
		0x40005033, // sra
		0x02001033, // mulh
		0x02004033, // div
		0x02006033, // rem
		0x42000033, 0x40001033, 0x04000033,
		0x00002013,                         // slti
		0x04001013, 0x40001013, 0x80001013, // shifts by more than 63, and below 0
		0x04005013, 0x40005013, 0x80005013,
		0x00001067,             // no KJalr
		0x00002063, 0x00003063, // no branches
		0x00004063, // blt
		0x00005063, // bge
		0x0000000f, // fence
		0x0000001b, // addiw
		0x0000003b, // addw
	} {
		if o, e := enc.Take(w); o != (api.Op{}) || e != api.ErrOp {
			t.Errorf("Take(%08x) = %+v, %d, not nothing and ErrOp", w, o, e)
		}
	}
}
