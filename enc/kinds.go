package enc

import (
	"marline/api"
)

// kind is what tells one kind from the others in a word; what its form hasn't is 0.
type kind struct {
	form           int
	opcode, f3, f7 uint32
}

// kinds are all of them, by their numbers; there is no kind 0.
var kinds = [...]kind{
	api.KAdd:   {formR, 0x33, 0, 0x00},
	api.KSub:   {formR, 0x33, 0, 0x20},
	api.KSll:   {formR, 0x33, 1, 0x00},
	api.KSltu:  {formR, 0x33, 3, 0x00},
	api.KXor:   {formR, 0x33, 4, 0x00},
	api.KSrl:   {formR, 0x33, 5, 0x00},
	api.KOr:    {formR, 0x33, 6, 0x00},
	api.KAnd:   {formR, 0x33, 7, 0x00},
	api.KMul:   {formR, 0x33, 0, 0x01},
	api.KDivu:  {formR, 0x33, 5, 0x01},
	api.KRemu:  {formR, 0x33, 7, 0x01},
	api.KAddi:  {formI, 0x13, 0, 0},
	api.KSltiu: {formI, 0x13, 3, 0},
	api.KXori:  {formI, 0x13, 4, 0},
	api.KOri:   {formI, 0x13, 6, 0},
	api.KAndi:  {formI, 0x13, 7, 0},
	api.KSlli:  {formShift, 0x13, 1, 0},
	api.KSrli:  {formShift, 0x13, 5, 0},
	api.KLd:    {formI, 0x03, 3, 0},
	api.KLbu:   {formI, 0x03, 4, 0},
	api.KSd:    {formS, 0x23, 3, 0},
	api.KSb:    {formS, 0x23, 0, 0},
	api.KBeq:   {formB, 0x63, 0, 0},
	api.KBne:   {formB, 0x63, 1, 0},
	api.KBltu:  {formB, 0x63, 6, 0},
	api.KBgeu:  {formB, 0x63, 7, 0},
	api.KLui:   {formU, 0x37, 0, 0},
	api.KAuipc: {formU, 0x17, 0, 0},
	api.KJal:   {formJ, 0x6f, 0, 0},
	api.KJalr:  {formI, 0x67, 0, 0},
	api.KEcall: {formCall, 0x73, 0, 0},
}

// kindOf is what a word says of its kind, read as one of that form.
func kindOf(w uint32, form int) kind {
	k := kind{form: form, opcode: cut(w, 0, 7)}
	if form != formU && form != formJ {
		k.f3 = cut(w, f3At, 3)
	}
	if form == formR {
		k.f7 = cut(w, f7At, 7)
	}
	return k
}

// takeAs is the instruction of a word, read as one of the kind with that number.
func takeAs(w uint32, number int) api.Op {
	form := kinds[number].form
	f := forms[form]
	return api.Op{
		Kind: number,
		Rd:   takeReg(w, rdAt, f.rd),
		A:    takeReg(w, aAt, f.a),
		B:    takeReg(w, bAt, f.b),
		Imm:  takeImm(w, form),
	}
}
