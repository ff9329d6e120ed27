package bit_test

import (
	"fmt"
	"math/big"
	"strings"
	"testing"

	"marline/api"
	"marline/bit"
)

// behind are what may stand behind a number.
var behind = []string{"", "\x00", "\x01", "\x7f", "\x80", "\xff", "\x80\x00", "MIR1", "\xff\xff\xff\xff\xff\xff\xff\xff\xff\xff\xff"}

// expectNum: TakeNum answers that number, and what stands behind it.
func expectNum(t *testing.T, s string, want uint64, wantRest string) {
	t.Helper()
	if v, rest, e := bit.TakeNum(s); v != want || rest != wantRest || e != api.OK {
		t.Errorf("TakeNum(%q) answers %d, %q, %d, not %d, %q", s, v, rest, e, want, wantRest)
	}
}

// expectNoNum: TakeNum answers that error, and nothing else.
func expectNoNum(t *testing.T, s string, want api.Errno) {
	t.Helper()
	if v, rest, e := bit.TakeNum(s); v != 0 || rest != "" || e != want {
		t.Errorf("TakeNum(%q) answers %d, %q, %d, not %d", s, v, rest, e, want)
	}
}

// TestNum: P6.1, numbers whose bytes are written out.
func TestNum(t *testing.T) {
	for _, c := range []struct {
		v uint64
		s string
	}{
		{0, "\x00"}, {1, "\x01"}, {127, "\x7f"}, {128, "\x80\x01"}, {129, "\x81\x01"}, {255, "\xff\x01"}, {256, "\x80\x02"}, {300, "\xac\x02"},
		{16383, "\xff\x7f"}, {16384, "\x80\x80\x01"}, {1<<32 - 1, "\xff\xff\xff\xff\x0f"}, {1 << 32, "\x80\x80\x80\x80\x10"},
		{1<<63 - 1, "\xff\xff\xff\xff\xff\xff\xff\xff\x7f"}, {1 << 63, "\x80\x80\x80\x80\x80\x80\x80\x80\x80\x01"}, {1<<64 - 1, "\xff\xff\xff\xff\xff\xff\xff\xff\xff\x01"},
	} {
		if s := bit.Num(c.v); s != c.s {
			t.Errorf("Num(%d) answers %q, not %q", c.v, s, c.s)
		}
		for _, more := range behind {
			expectNum(t, c.s+more, c.v, more)
		}
	}
}

// TestNumEdges: P6.1, the numbers on both sides of each power of 2 and of 128, and any others.
func TestNumEdges(t *testing.T) {
	l := edges()
	r := random(1)
	for range 20000 {
		l = append(l, r.wide())
	}
	for _, v := range l {
		s := num(v)
		if got := bit.Num(v); got != s {
			t.Errorf("Num(%d) answers %q, not %q", v, got, s)
		}
		for _, more := range behind {
			expectNum(t, s+more, v, more)
		}
		for n := range len(s) {
			expectNoNum(t, s[:n], api.ErrMore)
		}
	}
}

// TestNumLength: P6.1, a number has as few bytes as may be: one more from each power of 128 on.
func TestNumLength(t *testing.T) {
	for n := 1; n <= 9; n++ {
		power := uint64(1) << (7 * n)
		if below, from := len(bit.Num(power-1)), len(bit.Num(power)); below != n || from != n+1 {
			t.Errorf("%d and one less have %d and %d bytes, not %d and %d", power, from, below, n+1, n)
		}
	}
	if n := len(bit.Num(0)); n != 1 {
		t.Errorf("0 has %d bytes", n)
	}
}

// TestTakeNumMore: P6.1, fewer than ten bytes, whose highest bits are all set, or none.
func TestTakeNumMore(t *testing.T) {
	for n := range 10 {
		for _, b := range []string{"\x80", "\x81", "\xff", "\xc0"} {
			expectNoNum(t, strings.Repeat(b, n), api.ErrMore)
		}
	}
}

// TestTakeNumForm: P6.1, what has no form, with bytes behind it and with none.
func TestTakeNumForm(t *testing.T) {
	for _, more := range behind {
		for _, b := range []string{"\x80", "\x81", "\xff"} {
			expectNoNum(t, strings.Repeat(b, 10)+more, api.ErrForm) // none of ten ends it
			for n := 1; n <= 9; n++ {
				expectNoNum(t, strings.Repeat(b, n)+"\x00"+more, api.ErrForm)
			}
			for last := 2; last < 256; last++ { // above 2^64 - 1, from 2^64 on
				expectNoNum(t, strings.Repeat(b, 9)+string([]byte{byte(last)})+more, api.ErrForm)
			}
			expectNoNum(t, strings.Repeat(b, 10)+"\x01"+more, api.ErrForm)
		}
	}
}

// numOf is what TakeNum is to answer, by the document's words, with numbers of any size.
func numOf(s string) (uint64, string, api.Errno) {
	last := strings.IndexFunc(s, func(r rune) bool { return r < 0x80 })
	switch {
	case last < 0 && len(s) < 10:
		return 0, "", api.ErrMore
	case last < 0 || last >= 10:
		return 0, "", api.ErrForm
	}
	v := new(big.Int)
	for at := last; at >= 0; at-- {
		v.Lsh(v, 7)
		v.Add(v, big.NewInt(int64(s[at]%128)))
	}
	if !v.IsUint64() || last > 0 && s[last] == 0 {
		return 0, "", api.ErrForm
	}
	return v.Uint64(), s[last+1:], api.OK
}

// TestTakeNumAll: P6.1, all texts of up to two bytes, and all of up to five of some, with high ones ahead of them.
func TestTakeNumAll(t *testing.T) {
	try := func(s string) {
		v, rest, e := bit.TakeNum(s)
		if wantV, wantRest, wantE := numOf(s); v != wantV || rest != wantRest || e != wantE {
			t.Fatalf("TakeNum(%q) answers %d, %q, %d, not %d, %q, %d", s, v, rest, e, wantV, wantRest, wantE)
		}
	}
	for a := range 256 {
		try(string([]byte{byte(a)}))
		for b := range 256 {
			try(string([]byte{byte(a), byte(b)}))
		}
	}
	some := "\x00\x01\x02\x7f\x80\x81\xff"
	rows := []string{""}
	for range 5 {
		for _, s := range rows {
			for n := range 11 {
				try(strings.Repeat("\x80", n) + s)
				try(strings.Repeat("\xff", n) + s)
			}
		}
		var longer []string
		for _, s := range rows {
			for k := range len(some) {
				longer = append(longer, s+some[k:k+1])
			}
		}
		rows = longer
	}
}

// TestTakeNumRow: P6.1, numbers one behind the other, each taken from what the one ahead of it left.
func TestTakeNumRow(t *testing.T) {
	var s strings.Builder
	for _, v := range edges() {
		s.WriteString(bit.Num(v))
	}
	rest := s.String()
	for _, v := range edges() {
		var got uint64
		var e api.Errno
		if got, rest, e = bit.TakeNum(rest); got != v || e != api.OK {
			t.Fatal(fmt.Sprint("taken: ", got, ", ", e, ", not ", v))
		}
	}
	if rest != "" {
		t.Errorf("%q is left", rest)
	}
}
