package enc_test

import (
	"slices"
	"strings"
	"testing"

	"marline/api"
	"marline/enc"
)

// allRows are the instructions of wordRows, and their bytes.
func allRows() ([]api.Op, string) {
	var ops []api.Op
	var b strings.Builder
	for _, x := range wordRows {
		ops = append(ops, x.o)
		for shift := 0; shift < 32; shift += 8 {
			b.WriteByte(byte(x.w >> shift))
		}
	}
	return ops, b.String()
}

// TestBytes: P1.2, the words in order, the lowest byte first.
func TestBytes(t *testing.T) {
	s, e := enc.Bytes([]api.Op{{Kind: api.KAddi, Rd: 17, Imm: 93}, {Kind: api.KAddi, Rd: 10, Imm: 7}, {Kind: api.KEcall}})
	if s != "\x93\x08\xd0\x05\x13\x05\x70\x00\x73\x00\x00\x00" || e != api.OK {
		t.Errorf("Bytes = %q, %d", s, e)
	}
	ops, want := allRows()
	before := slices.Clone(ops)
	if s, e := enc.Bytes(ops); s != want || e != api.OK {
		t.Errorf("Bytes of all rows = %q, %d", s, e)
	}
	if !slices.Equal(ops, before) {
		t.Error("Bytes wrote into what it was handed")
	}
}

// TestBytesEmpty: P1.2, nothing is nothing, either way.
func TestBytesEmpty(t *testing.T) {
	for _, l := range [][]api.Op{nil, {}} {
		if s, e := enc.Bytes(l); s != "" || e != api.OK {
			t.Errorf("Bytes(%v) = %q, %d", l, s, e)
		}
	}
	if l, e := enc.Back(""); len(l) != 0 || e != api.OK {
		t.Errorf("Back of nothing = %v, %d", l, e)
	}
}

// TestBytesRefuses: P1.2, one that may not be, wherever it stands.
func TestBytesRefuses(t *testing.T) {
	good := api.Op{Kind: api.KEcall}
	for _, bad := range []api.Op{
		{}, {Kind: 32}, {Kind: -1}, {Kind: api.KAdd, Rd: 32}, {Kind: api.KAdd, A: -1}, {Kind: api.KAddi, B: 1},
		{Kind: api.KAdd, Imm: 1}, {Kind: api.KAddi, Imm: 2048}, {Kind: api.KJal, Imm: 1}, {Kind: api.KLui, Imm: 2048},
	} {
		for _, l := range [][]api.Op{{bad}, {bad, good}, {good, bad}, {good, bad, good}, {bad, bad}} {
			if s, e := enc.Bytes(l); s != "" || e != api.ErrArg {
				t.Errorf("Bytes(%+v) = %q, %d, not nothing and ErrArg", l, s, e)
			}
		}
	}
}

// TestBack: P1.2, the instructions in order.
func TestBack(t *testing.T) {
	want, s := allRows()
	if got, e := enc.Back(s); !slices.Equal(got, want) || e != api.OK {
		t.Errorf("Back of all rows = %+v, %d", got, e)
	}
}

// TestBackMore: P1.2, bytes that are not four for each: ErrMore, ahead of what the words are.
func TestBackMore(t *testing.T) {
	_, s := allRows()
	for n := range 40 {
		got, e := enc.Back(s[:n])
		switch {
		case n%4 != 0 && (len(got) != 0 || e != api.ErrMore):
			t.Errorf("Back of %d bytes = %+v, %d, not nothing and ErrMore", n, got, e)
		case n%4 == 0 && (len(got) != n/4 || e != api.OK):
			t.Errorf("Back of %d bytes = %+v, %d", n, got, e)
		}
		want := api.ErrMore
		if n%4 == 0 {
			want = api.ErrOp
		}
		if got, e := enc.Back(strings.Repeat("\xff", n)); n > 0 && (len(got) != 0 || e != want) {
			t.Errorf("Back of %d bytes of no words = %+v, %d, not nothing and %d", n, got, e, want)
		}
	}
}

// TestBackRefuses: P1.2, a word of no instruction, wherever it stands.
func TestBackRefuses(t *testing.T) {
	const good, bad = "\x73\x00\x00\x00", "\x73\x00\x10\x00"
	for _, s := range []string{bad, bad + good, good + bad, good + bad + good, "\x00\x00\x00\x00", good + "\x00\x00\x00\x73"} {
		if got, e := enc.Back(s); len(got) != 0 || e != api.ErrOp {
			t.Errorf("Back(%q) = %+v, %d, not nothing and ErrOp", s, got, e)
		}
	}
}
