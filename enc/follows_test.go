package enc_test

import (
	"testing"

	"marline/api"
	"marline/enc"
)

// someRegs are registers of all sorts of bits, if the form has them.
func someRegs(has bool) []int {
	if !has {
		return []int{0}
	}
	return []int{0, 1, 2, 4, 8, 15, 16, 21, 30, 31}
}

// someImms are the edges of a form, and numbers of one bit, and of all but one.
func someImms(r formRow) []int64 {
	var l []int64
	seen := map[int64]int{}
	add := func(v int64) {
		if v >= r.least && v <= r.most && v%r.step == 0 && seen[v] == 0 {
			seen[v]++
			l = append(l, v)
		}
	}
	for _, v := range []int64{0, r.least, r.least + r.step, r.most - r.step, r.most} {
		add(v)
	}
	for bit := range 32 {
		add(1 << bit)
		add(-1 << bit)
		add(r.most ^ 1<<bit)
		add(^(1 << bit))
	}
	return l
}

// expectOwnWord: the word of o is o's again, and no other's among those of words.
func expectOwnWord(t *testing.T, o api.Op, words map[uint32]api.Op) {
	t.Helper()
	w, e := enc.Word(o)
	if e != api.OK {
		t.Fatalf("Word(%+v) refuses with %d", o, e)
	}
	if got, e := enc.Take(w); got != o || e != api.OK {
		t.Fatalf("Take(%08x) = %+v, %d, not %+v", w, got, e, o)
	}
	if other, there := words[w]; there {
		t.Fatalf("%+v and %+v have the word %08x", other, o, w)
	}
	words[w] = o
}

// TestOwnWords: P1.3, over registers and Imms of all sorts, of all kinds at once.
func TestOwnWords(t *testing.T) {
	words := map[uint32]api.Op{}
	eachKind(func(kind int, r formRow) {
		imms := someImms(r)
		for _, rd := range someRegs(r.rd) {
			for _, a := range someRegs(r.a) {
				for _, b := range someRegs(r.b) {
					for _, imm := range imms {
						expectOwnWord(t, api.Op{Kind: kind, Rd: rd, A: a, B: b, Imm: imm}, words)
					}
				}
			}
		}
	})
}

// TestOwnWordsOfAllImms: P1.3, every Imm that a form has.
func TestOwnWordsOfAllImms(t *testing.T) {
	for _, r := range formRows {
		words := map[uint32]api.Op{}
		o := api.Op{Kind: r.kinds[0]}
		if r.rd {
			o.Rd = 10
		}
		for o.Imm = r.least; o.Imm <= r.most; o.Imm += r.step {
			expectOwnWord(t, o, words)
		}
	}
}
