package rv_test

import (
	"math"
	"math/big"
	"testing"

	"marline/api"
	"marline/rv"
)

// whole is a number of any size.
func whole(v uint64) *big.Int {
	return new(big.Int).SetUint64(v)
}

// round is a number modulo 2^64.
func round(v *big.Int) uint64 {
	return new(big.Int).And(v, whole(math.MaxUint64)).Uint64()
}

// reckoners are what the kinds of the form R reckon, as whole numbers of any size.
func reckoners() map[int]func(a, b *big.Int) *big.Int {
	is := new(big.Int)
	return map[int]func(a, b *big.Int) *big.Int{
		api.KAdd: is.Add,
		api.KSub: is.Sub,
		api.KMul: is.Mul,
		api.KAnd: is.And,
		api.KOr:  is.Or,
		api.KXor: is.Xor,
		api.KDivu: func(a, b *big.Int) *big.Int {
			if b.Sign() == 0 {
				return whole(math.MaxUint64)
			}
			return is.Quo(a, b)
		},
		api.KRemu: func(a, b *big.Int) *big.Int {
			if b.Sign() == 0 {
				return a
			}
			return is.Rem(a, b)
		},
		api.KSll: func(a, b *big.Int) *big.Int {
			return is.Lsh(a, uint(b.Uint64()%64))
		},
		api.KSrl: func(a, b *big.Int) *big.Int {
			return is.Rsh(a, uint(b.Uint64()%64))
		},
		api.KSltu: func(a, b *big.Int) *big.Int {
			if a.Cmp(b) < 0 {
				return whole(1)
			}
			return whole(0)
		},
	}
}

// withImm are the kinds that do with Imm what another does with b.
var withImm = map[int]int{
	api.KAddi: api.KAdd, api.KSltiu: api.KSltu, api.KXori: api.KXor, api.KOri: api.KOr,
	api.KAndi: api.KAnd, api.KSlli: api.KSll, api.KSrli: api.KSrl,
}

// someImms are Imms of all sizes, of instructions that may be and of such that may not.
var someImms = []int64{
	0, 1, 2, 31, 32, 63, 64, 65, 255, 2047, 2048, 4094, 4096, 1<<31 - 4096, 1 << 40, math.MaxInt64,
	-1, -2, -63, -64, -65, -2048, -4096, -1 << 31, math.MinInt64,
}

// expectDoes: Does answers so.
func expectDoes(t *testing.T, o api.Op, a, b, pc, want uint64) {
	t.Helper()
	if got := rv.Does(o, a, b, pc); got != want {
		t.Errorf("Does(%+v, %#x, %#x, %#x) = %#x, not %#x", o, a, b, pc, got, want)
	}
}

// TestDoesRegisters: P3.1, of registers; Imm and pc are nothing to it.
func TestDoesRegisters(t *testing.T) {
	for kind, reckon := range reckoners() {
		for _, a := range edges {
			for _, b := range edges {
				want := round(reckon(whole(a), whole(b)))
				expectDoes(t, api.Op{Kind: kind}, a, b, 0, want)
				expectDoes(t, api.Op{Kind: kind, Rd: 1, A: 2, B: 3, Imm: 9}, a, b, 12, want)
			}
		}
	}
}

// TestDoesImm: P3.1, of a register and Imm; b and pc are nothing to it.
func TestDoesImm(t *testing.T) {
	all := reckoners()
	for kind, as := range withImm {
		for _, a := range edges {
			for _, imm := range someImms {
				want := round(all[as](whole(a), whole(uint64(imm))))
				expectDoes(t, api.Op{Kind: kind, Imm: imm}, a, 0, 0, want)
				expectDoes(t, api.Op{Kind: kind, Imm: imm, Rd: 3, A: 2, B: 9}, a, 5, 12, want)
			}
		}
	}
}

// TestDoesPlaces: P3.1, of Imm and pc; the registers are nothing to it.
func TestDoesPlaces(t *testing.T) {
	four := whole(4)
	for _, imm := range someImms {
		for _, pc := range edges {
			place := round(new(big.Int).Add(whole(pc), big.NewInt(imm)))
			next := round(new(big.Int).Add(whole(pc), four))
			expectDoes(t, api.Op{Kind: api.KLui, Imm: imm}, 3, 5, pc, uint64(imm))
			expectDoes(t, api.Op{Kind: api.KAuipc, Imm: imm}, 3, 5, pc, place)
			expectDoes(t, api.Op{Kind: api.KJal, Imm: imm}, 3, 5, pc, next)
			expectDoes(t, api.Op{Kind: api.KJalr, Imm: imm}, 3, 5, pc, next)
		}
	}
}

// TestDoesNumbers: P3.1, numbers that are written out.
func TestDoesNumbers(t *testing.T) {
	const most = math.MaxUint64
	for _, x := range []struct {
		kind             int
		imm              int64
		a, b, pc, answer uint64
	}{
		{api.KAdd, 0, most, 2, 0, 1},
		{api.KSub, 0, 0, 1, 0, most},
		{api.KMul, 0, most, most, 0, 1},
		{api.KMul, 0, 1 << 32, 1 << 32, 0, 0},
		{api.KDivu, 0, most, 2, 0, 1<<63 - 1},
		{api.KDivu, 0, 1 << 63, most, 0, 0},
		{api.KDivu, 0, 7, 0, 0, most},
		{api.KDivu, 0, 0, 0, 0, most},
		{api.KRemu, 0, most, 10, 0, 5},
		{api.KRemu, 0, most, 0, 0, most},
		{api.KRemu, 0, 0, 0, 0, 0},
		{api.KSltu, 0, 1, most, 0, 1},
		{api.KSltu, 0, most, 1, 0, 0},
		{api.KSltu, 0, 5, 5, 0, 0},
		{api.KSll, 0, 3, 63, 0, 1 << 63},
		{api.KSll, 0, 3, 64, 0, 3},
		{api.KSll, 0, 3, most, 0, 1 << 63},
		{api.KSll, 0, 3, 1 << 32, 0, 3},
		{api.KSrl, 0, most, 63, 0, 1},
		{api.KSrl, 0, most, 64, 0, most},
		{api.KSrl, 0, 1 << 63, 127, 0, 1},
		{api.KAddi, -1, 0, 0, 0, most},
		{api.KSltiu, -1, 5, 0, 0, 1},
		{api.KSltiu, -2048, most, 0, 0, 0},
		{api.KXori, -1, 0x0f, 0, 0, most - 0x0f},
		{api.KOri, -2048, 1, 0, 0, most - 2046},
		{api.KAndi, -2048, most, 0, 0, most - 2047},
		{api.KAndi, 2047, most, 0, 0, 2047},
		{api.KSlli, 63, 1, 0, 0, 1 << 63},
		{api.KSrli, 63, 1 << 63, 0, 0, 1},
		{api.KLui, -4096, 1, 1, 1, most - 4095},
		{api.KLui, -1 << 31, 0, 0, 0, most - 1<<31 + 1},
		{api.KAuipc, -4096, 0, 0, 4, most - 4091},
		{api.KAuipc, 4096, 0, 0, most - 3, 4092},
		{api.KJal, -8, 0, 0, 100, 104},
		{api.KJalr, 8, 50, 0, most - 3, 0},
	} {
		expectDoes(t, api.Op{Kind: x.kind, Imm: x.imm}, x.a, x.b, x.pc, x.answer)
	}
}

// TestDoesNothing: P3.1, any other kind.
func TestDoesNothing(t *testing.T) {
	kinds := []int{
		api.KLd, api.KLbu, api.KSd, api.KSb, api.KBeq, api.KBne, api.KBltu, api.KBgeu, api.KEcall,
		0, -1, -29, 32, 33, 1 << 32, 1<<32 + 1, math.MaxInt, math.MinInt, math.MinInt + 1,
	}
	for _, kind := range kinds {
		expectDoes(t, api.Op{Kind: kind, Rd: 1, A: 2, B: 3, Imm: 12}, 7, 5, 100, 0)
		expectDoes(t, api.Op{Kind: kind}, math.MaxUint64, math.MaxUint64, math.MaxUint64, 0)
	}
}

// TestGoes: P3.1, branches; Imm is nothing to them.
func TestGoes(t *testing.T) {
	for _, a := range edges {
		for _, b := range edges {
			than := whole(a).Cmp(whole(b))
			wants := map[int]bool{api.KBeq: than == 0, api.KBne: than != 0, api.KBltu: than < 0, api.KBgeu: than >= 0}
			for kind := -3; kind < 36; kind++ {
				for _, o := range []api.Op{{Kind: kind}, {Kind: kind, Rd: 1, A: 2, B: 3, Imm: -8}} {
					if got := rv.Goes(o, a, b); got != wants[kind] {
						t.Errorf("Goes(%+v, %#x, %#x) = %v", o, a, b, got)
					}
				}
			}
		}
	}
	for _, kind := range []int{math.MaxInt, math.MinInt, 1<<32 + api.KBeq, -api.KBeq} {
		if rv.Goes(api.Op{Kind: kind}, 5, 5) || rv.Goes(api.Op{Kind: kind}, 5, 6) || rv.Goes(api.Op{Kind: kind}, 6, 5) {
			t.Errorf("the kind %d goes", kind)
		}
	}
}
