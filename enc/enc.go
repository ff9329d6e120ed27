// Package enc is layer 1: see shared/doc/01-enc.md.
package enc

import (
	"marline/api"
)

// May: may an instruction be?
func May(o api.Op) bool {
	if o.Kind < 1 || o.Kind >= len(kinds) {
		return false
	}
	f := forms[kinds[o.Kind].form]
	return mayReg(o.Rd, f.rd) && mayReg(o.A, f.a) && mayReg(o.B, f.b) && mayImm(o.Imm, f)
}

// Word is an instruction's.
func Word(o api.Op) (uint32, api.Errno) {
	if !May(o) {
		return 0, api.ErrArg
	}
	k := kinds[o.Kind]
	// What a form hasn't is 0 in an instruction that may be, and in the table: one sum serves all forms.
	fixed := k.opcode | k.f3<<f3At | k.f7<<f7At
	regs := uint32(o.Rd)<<rdAt | uint32(o.A)<<aAt | uint32(o.B)<<bAt
	return fixed | regs | layImm(o.Imm, k.form), api.OK
}

// Take is the instruction of a word.
func Take(w uint32) (api.Op, api.Errno) {
	for n := 1; n < len(kinds); n++ {
		if kindOf(w, kinds[n].form) != kinds[n] {
			continue
		}
		o := takeAs(w, n)
		// A shift that is too far, and KEcall with other bits, have what tells their kind: only their word shows that they are none.
		if v, e := Word(o); e == api.OK && v == w {
			return o, api.OK
		}
	}
	return api.Op{}, api.ErrOp
}

// Bytes are a program's.
func Bytes(l []api.Op) (string, api.Errno) {
	out := make([]byte, 0, wordBytes*len(l))
	for _, o := range l {
		w, e := Word(o)
		if e != api.OK {
			return "", e
		}
		out = append(out, byte(w), byte(w>>8), byte(w>>16), byte(w>>24))
	}
	return string(out), api.OK
}

// Back is the program of bytes.
func Back(s string) ([]api.Op, api.Errno) {
	if len(s)%wordBytes != 0 {
		return nil, api.ErrMore
	}
	out := make([]api.Op, 0, len(s)/wordBytes)
	for i := 0; i < len(s); i += wordBytes {
		o, e := Take(wordAt(s, i))
		if e != api.OK {
			return nil, e
		}
		out = append(out, o)
	}
	return out, api.OK
}
