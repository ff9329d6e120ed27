package eval_test

import (
	"math"
	"slices"
	"testing"

	"marline/api"
	"marline/eval"
)

const (
	high = 1 << 63   // the highest bit alone
	most = 1<<64 - 1 // all bits
)

// reckoned is an operation on two values, and what it gives.
type reckoned struct {
	op         int
	a, b, want uint64
}

// TestReckon: P7.1, each operation at ordinary numbers and at the edges, by hand.
func TestReckon(t *testing.T) {
	for _, c := range slices.Concat(sums(), bits(), moves(), tests()) {
		if v := eval.Reckon(c.op, c.a, c.b); v != c.want {
			t.Errorf("Reckon(%d, %d, %d) answers %d, not %d", c.op, c.a, c.b, v, c.want)
		}
	}
}

// sums are rows of IAdd, ISub and IMul.
func sums() []reckoned {
	return []reckoned{
		{api.IAdd, 0, 0, 0}, {api.IAdd, 3, 4, 7}, {api.IAdd, most, 1, 0}, {api.IAdd, 1, most, 0}, {api.IAdd, most, most, most - 1},
		{api.IAdd, high, high, 0}, {api.IAdd, high - 1, 1, high}, {api.IAdd, 1<<32 - 1, 1, 1 << 32},
		{api.ISub, 0, 0, 0}, {api.ISub, 9, 4, 5}, {api.ISub, 4, 9, most - 4}, {api.ISub, 0, 1, most}, {api.ISub, 0, most, 1},
		{api.ISub, high, 1, high - 1}, {api.ISub, 0, high, high}, {api.ISub, most, most, 0}, {api.ISub, 7, 0, 7}, {api.ISub, 1, high, high + 1},
		{api.IMul, 0, most, 0}, {api.IMul, 6, 7, 42}, {api.IMul, most, most, 1}, {api.IMul, most, 2, most - 1}, {api.IMul, high, 2, 0},
		{api.IMul, high, 3, high}, {api.IMul, 1 << 32, 1 << 31, high}, {api.IMul, 1 << 32, 1 << 32, 0}, {api.IMul, 1<<32 + 1, 1<<32 + 1, 1<<33 + 1},
	}
}

// bits are rows of IAnd, IOr and IXor.
func bits() []reckoned {
	return []reckoned{
		{api.IAnd, 12, 10, 8}, {api.IAnd, most, high, high}, {api.IAnd, 0, most, 0}, {api.IAnd, most, most, most}, {api.IAnd, 1, high, 0},
		{api.IOr, 12, 10, 14}, {api.IOr, 1, high, high + 1}, {api.IOr, 0, 0, 0}, {api.IOr, most, 0, most}, {api.IOr, 0, most, most},
		{api.IXor, 12, 10, 6}, {api.IXor, most, most, 0}, {api.IXor, most, 1, most - 1}, {api.IXor, 0, high, high}, {api.IXor, high, high + 1, 1},
	}
}

// moves are rows of IShl and IShr.
func moves() []reckoned {
	return []reckoned{
		{api.IShl, 3, 0, 3}, {api.IShl, 3, 1, 6}, {api.IShl, 1, 63, high}, {api.IShl, 3, 63, high}, {api.IShl, 3, 64, 3}, {api.IShl, 3, 65, 6},
		{api.IShl, 3, most, high}, {api.IShl, most, 1, most - 1}, {api.IShl, most, 32, most - 1<<32 + 1}, {api.IShl, 0, 5, 0}, {api.IShl, high, 1, 0}, {api.IShl, 5, high, 5}, {api.IShl, 1, 1<<32 + 2, 4},
		{api.IShr, 6, 0, 6}, {api.IShr, 6, 1, 3}, {api.IShr, 3, 1, 1}, {api.IShr, most, 63, 1}, {api.IShr, high, 63, 1}, {api.IShr, high - 1, 63, 0}, {api.IShr, 6, 64, 6}, {api.IShr, 6, 65, 3},
		{api.IShr, most, most, 1}, {api.IShr, most, 1, high - 1}, {api.IShr, high, 1, 1 << 62}, {api.IShr, 0, 5, 0}, {api.IShr, 5, high, 5}, {api.IShr, 12, 1<<32 + 2, 3},
	}
}

// tests are rows of ILess and IEq.
func tests() []reckoned {
	return []reckoned{
		{api.ILess, 1, 2, 1}, {api.ILess, 2, 1, 0}, {api.ILess, 2, 2, 0}, {api.ILess, 0, 0, 0}, {api.ILess, 0, 1, 1}, {api.ILess, 0, most, 1}, {api.ILess, most, 0, 0},
		{api.ILess, most, most, 0}, {api.ILess, high, high - 1, 0}, {api.ILess, high - 1, high, 1}, {api.ILess, most - 1, most, 1}, {api.ILess, 1, high, 1},
		{api.IEq, 0, 0, 1}, {api.IEq, 5, 5, 1}, {api.IEq, 5, 6, 0}, {api.IEq, 6, 5, 0}, {api.IEq, most, most, 1}, {api.IEq, 0, most, 0}, {api.IEq, most, 0, 0},
		{api.IEq, high, 0, 0}, {api.IEq, 0, high, 0}, {api.IEq, high, high, 1}, {api.IEq, 1 << 32, 0, 0}, {api.IEq, 1, 0, 0}, {api.IEq, 0, 1, 0},
	}
}

// TestReckonNone: P7.1, what is no operation of two values gives 0.
func TestReckonNone(t *testing.T) {
	for _, op := range []int{math.MinInt, -2, -1, 0, api.IConst, api.ILoad, api.IStore, api.ICall, api.IRead, api.IWrite, 17, 18, 256 + api.IAdd, 1<<32 + api.IAdd, math.MaxInt} {
		for _, a := range []uint64{0, 1, 5, high, most} {
			for _, b := range []uint64{0, 1, 5, high, most} {
				if v := eval.Reckon(op, a, b); v != 0 {
					t.Errorf("Reckon(%d, %d, %d) answers %d", op, a, b, v)
				}
			}
		}
	}
}

// TestReckonAll: P7.1, each operation at each two of the edges, and at numbers of all sizes, against whole numbers.
func TestReckonAll(t *testing.T) {
	values := []uint64{0, 1, 2, 3, 62, 63, 64, 65, 66, 127, 128, 129, 1<<32 - 1, 1 << 32, 1<<32 + 1, high - 1, high, high + 1, most - 1, most}
	r := random(7)
	for range 60 {
		values = append(values, r.wide())
	}
	for op := -1; op <= 18; op++ {
		for _, a := range values {
			for _, b := range values {
				if v, want := eval.Reckon(op, a, b), worth(op, a, b); v != want {
					t.Errorf("Reckon(%d, %d, %d) answers %d, not %d", op, a, b, v, want)
				}
			}
		}
	}
}
