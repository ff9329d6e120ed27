package enc

// The forms. Shifts are of the form I, but their Imm has bounds of its own; KEcall is one word.
const (
	formR = iota
	formI
	formShift
	formS
	formB
	formU
	formJ
	formCall
)

// bounds are which registers a form has, its least and its greatest Imm, and what that is a multiple of.
type bounds struct {
	rd, a, b              bool
	least, most, multiple int64
}

// forms are the bounds of all forms.
var forms = [...]bounds{
	formR:     {true, true, true, 0, 0, 1},
	formI:     {true, true, false, -2048, 2047, 1},
	formShift: {true, true, false, 0, 63, 1},
	formS:     {false, true, true, -2048, 2047, 1},
	formB:     {false, true, true, -4096, 4094, 2},
	formU:     {true, false, false, -1 << 31, 1<<31 - 4096, 4096},
	formJ:     {true, false, false, -1 << 20, 1<<20 - 2, 2},
	formCall:  {false, false, false, 0, 0, 1},
}

// From which bit on a part stands, in each form that has it.
const (
	rdAt = 7
	f3At = 12
	aAt  = 15
	bAt  = 20
	f7At = 25
)

const (
	regBits   = 5
	wordBytes = 4
)

// mayReg: may a register be, if its form has it, or hasn't?
func mayReg(r int, has bool) bool {
	if !has {
		return r == 0
	}
	return 0 <= r && r < 1<<regBits
}

// mayImm: may an Imm be within these bounds?
func mayImm(imm int64, f bounds) bool {
	return f.least <= imm && imm <= f.most && imm%f.multiple == 0
}

// takeReg is the register of a word from that bit on, if its form has it.
func takeReg(w uint32, at uint, has bool) int {
	if !has {
		return 0
	}
	return int(cut(w, at, regBits))
}

// layImm is an Imm, its bits where that form has them in a word.
func layImm(imm int64, form int) uint32 {
	v := uint32(imm)
	switch form {
	case formI, formShift:
		return cut(v, 0, 12) << 20
	case formS:
		return cut(v, 0, 5)<<7 | cut(v, 5, 7)<<25
	case formB:
		return cut(v, 11, 1)<<7 | cut(v, 1, 4)<<8 | cut(v, 5, 6)<<25 | cut(v, 12, 1)<<31
	case formU:
		return cut(v, 12, 20) << 12
	case formJ:
		return cut(v, 12, 8)<<12 | cut(v, 11, 1)<<20 | cut(v, 1, 10)<<21 | cut(v, 20, 1)<<31
	}
	return 0
}

// takeImm is the Imm of a word of that form: layImm, backwards.
func takeImm(w uint32, form int) int64 {
	switch form {
	case formI, formShift:
		return signed(cut(w, 20, 12), 12)
	case formS:
		return signed(cut(w, 7, 5)|cut(w, 25, 7)<<5, 12)
	case formB:
		return signed(cut(w, 7, 1)<<11|cut(w, 8, 4)<<1|cut(w, 25, 6)<<5|cut(w, 31, 1)<<12, 13)
	case formU:
		return signed(cut(w, 12, 20)<<12, 32)
	case formJ:
		return signed(cut(w, 12, 8)<<12|cut(w, 20, 1)<<11|cut(w, 21, 10)<<1|cut(w, 31, 1)<<20, 21)
	}
	return 0
}

// cut is n bits of v, from that bit on.
func cut(v uint32, at, n uint) uint32 {
	return v >> at & (1<<n - 1)
}

// signed is the number of v's lowest n bits, the highest of which is its sign.
func signed(v uint32, n uint) int64 {
	unused := 32 - n
	return int64(int32(v<<unused) >> unused)
}

// wordAt is the word of four bytes from that place on, the lowest first.
func wordAt(s string, at int) uint32 {
	return uint32(s[at]) | uint32(s[at+1])<<8 | uint32(s[at+2])<<16 | uint32(s[at+3])<<24
}
