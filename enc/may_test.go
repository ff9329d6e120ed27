package enc_test

import (
	"math"
	"testing"

	"marline/api"
	"marline/enc"
)

// formRow is what the document says of a form: its kinds, its registers, its Imm.
type formRow struct {
	kinds             []int
	rd, a, b          bool
	least, most, step int64
}

var formRows = []formRow{
	{[]int{api.KAdd, api.KSub, api.KSll, api.KSltu, api.KXor, api.KSrl, api.KOr, api.KAnd, api.KMul, api.KDivu, api.KRemu}, true, true, true, 0, 0, 1},
	{[]int{api.KSlli, api.KSrli}, true, true, false, 0, 63, 1},
	{[]int{api.KAddi, api.KSltiu, api.KXori, api.KOri, api.KAndi, api.KLd, api.KLbu, api.KJalr}, true, true, false, -2048, 2047, 1},
	{[]int{api.KSd, api.KSb}, false, true, true, -2048, 2047, 1},
	{[]int{api.KBeq, api.KBne, api.KBltu, api.KBgeu}, false, true, true, -4096, 4094, 2},
	{[]int{api.KLui, api.KAuipc}, true, false, false, -2147483648, 2147479552, 4096},
	{[]int{api.KJal}, true, false, false, -1048576, 1048574, 2},
	{[]int{api.KEcall}, false, false, false, 0, 0, 1},
}

// eachKind goes through all kinds, with what the document says of their form.
func eachKind(f func(kind int, r formRow)) {
	for _, r := range formRows {
		for _, k := range r.kinds {
			f(k, r)
		}
	}
}

// expectMay holds May and Word against what May must be.
func expectMay(t *testing.T, o api.Op, may bool) {
	t.Helper()
	if enc.May(o) != may {
		t.Errorf("May(%+v) is not %v", o, may)
	}
	w, e := enc.Word(o)
	if may && e != api.OK {
		t.Errorf("Word(%+v) refuses with %d", o, e)
	}
	if !may && (w != 0 || e != api.ErrArg) {
		t.Errorf("Word(%+v) = %08x, %d, not 0 and ErrArg", o, w, e)
	}
}

func TestFormRowsHaveAllKinds(t *testing.T) {
	seen := map[int]int{}
	eachKind(func(kind int, r formRow) { seen[kind]++ })
	for k := 1; k <= 31; k++ {
		if seen[k] != 1 {
			t.Errorf("kind %d is there %d times", k, seen[k])
		}
	}
}

// TestMayKinds: P1.1, kinds 1 to 31 and no others. An instruction of noughts may be of every kind.
func TestMayKinds(t *testing.T) {
	for k := -40; k <= 80; k++ {
		expectMay(t, api.Op{Kind: k}, k >= 1 && k <= 31)
	}
	for _, k := range []int{math.MinInt, math.MinInt + 1, -1 << 32, 1 << 8, 1<<8 + 1, 1<<32 + 1, math.MaxInt} {
		expectMay(t, api.Op{Kind: k}, false)
	}
}

// TestMayRegisters: P1.1, registers 0 to 31 where the form has them, 0 where it hasn't.
func TestMayRegisters(t *testing.T) {
	values := []int{math.MinInt, -1 << 32, -32, -1, 0, 1, 2, 15, 16, 30, 31, 32, 33, 63, 64, 1 << 32, 1<<32 + 1, math.MaxInt}
	eachKind(func(kind int, r formRow) {
		for _, v := range values {
			good := v >= 0 && v <= 31
			expectMay(t, api.Op{Kind: kind, Rd: v}, v == 0 || r.rd && good)
			expectMay(t, api.Op{Kind: kind, A: v}, v == 0 || r.a && good)
			expectMay(t, api.Op{Kind: kind, B: v}, v == 0 || r.b && good)
		}
	})
}

// TestMayImmEdges: P1.1, the least and the greatest Imm of each form, what is just beyond, and what isn't a multiple.
func TestMayImmEdges(t *testing.T) {
	eachKind(func(kind int, r formRow) {
		may := func(imm int64, good bool) {
			t.Helper()
			expectMay(t, api.Op{Kind: kind, Imm: imm}, good)
		}
		may(r.least, true)
		may(r.most, true)
		may(0, true)
		for _, beyond := range []int64{1, 2, 4, 4096} {
			may(r.least-beyond, false)
			may(r.most+beyond, false)
		}
		if r.step > 1 {
			for _, off := range []int64{1, r.step - 1} {
				may(r.least+off, false)
				may(r.most-off, false)
				may(off, false)
				may(-off, false)
			}
		}
		// Numbers that would be within the bounds, were they cut off.
		for _, far := range []int64{math.MinInt64, math.MaxInt64, math.MaxInt64 - 4095, 1 << 32, -1 << 32, 1 << 52, 1 << 62} {
			may(far, false)
		}
	})
}

// TestMayImmNear: P1.1, every Imm about the bounds that are not far from 0.
func TestMayImmNear(t *testing.T) {
	eachKind(func(kind int, r formRow) {
		for imm := int64(-10000); imm <= 10000; imm++ {
			good := imm >= r.least && imm <= r.most && imm%r.step == 0
			if got := enc.May(api.Op{Kind: kind, Imm: imm}); got != good {
				t.Fatalf("May of kind %d, Imm %d is %v", kind, imm, got)
			}
		}
	})
}
