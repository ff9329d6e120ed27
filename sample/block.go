package sample

import (
	"strconv"
	"strings"

	"marline/api"
)

// opWords are those of the operations.
var opWords = [...]string{
	api.IConst: "const",
	api.IAdd:   "add",
	api.ISub:   "sub",
	api.IMul:   "mul",
	api.IAnd:   "and",
	api.IOr:    "or",
	api.IXor:   "xor",
	api.IShl:   "shl",
	api.IShr:   "shr",
	api.ILess:  "less",
	api.IEq:    "eq",
	api.ILoad:  "load",
	api.IStore: "store",
	api.ICall:  "call",
	api.IRead:  "read",
	api.IWrite: "write",
}

// Func is a strong function of these blocks, that has the first one's Params.
func Func(name string, texts ...string) api.Func {
	f := api.Func{Name: name, Bind: api.BStrong}
	for _, text := range texts {
		f.Blocks = append(f.Blocks, Block(text))
	}
	if len(f.Blocks) > 0 {
		f.Params = f.Blocks[0].Params
	}
	return f
}

// Block is a block by a text of parts, with semicolons between. First stands its /Params, if that isn't 0; then its instructions: const 5, add 0 1 (and so the others up to eq), load x, store x 0, call f 0 1, read, write 0; last its end: jump 1 : 0 1, if 0 : 1 0 : 2 1, ret 0. An operation that has no word may stand as its number; an end of which no word tells is of no kind.
func Block(text string) api.Block {
	var b api.Block
	parts := strings.Split(text, ";")
	if params, is := strings.CutPrefix(parts[0], "/"); is {
		b.Params = num(strings.TrimSpace(params))
		parts = parts[1:]
	}
	last := len(parts) - 1
	for _, part := range parts[:last] {
		b.Ins = append(b.Ins, instOf(strings.Fields(part)))
	}
	b.End = endOf(strings.Split(parts[last], ":"))
	return b
}

// instOf is an instruction by its words.
func instOf(l []string) api.Inst {
	i := api.Inst{Op: opOf(l[0])}
	switch i.Op {
	case api.IConst:
		i.K, _ = strconv.ParseUint(l[1], 10, 64)
	case api.ILoad, api.ICall:
		i.Name, i.Args = l[1], nums(l[2:])
	case api.IStore:
		i.Name, i.A = l[1], num(l[2])
	default:
		values := append(nums(l[1:]), 0, 0)
		i.A, i.B = values[0], values[1]
	}
	return i
}

// opOf is an operation by its word, or its number.
func opOf(word string) int {
	for op, known := range opWords {
		if known == word {
			return op
		}
	}
	return num(word)
}

// endOf is an end by its parts.
func endOf(parts []string) api.Term {
	var t api.Term
	words := strings.Fields(parts[0])
	switch strings.Join(words[:min(1, len(words))], "") {
	case "jump":
		t.Kind, t.To = api.TJump, num(words[1])
	case "if":
		t.Kind, t.A = api.TIf, num(words[1])
		t.To, t.Args = way(parts[1])
		t.Else, t.Elses = way(parts[2])
		return t
	case "ret":
		t.Kind, t.A = api.TRet, num(words[1])
	}
	if len(parts) > 1 {
		t.Args = nums(strings.Fields(parts[1]))
	}
	return t
}

// way is where an end leads to, and what it hands on.
func way(part string) (int, []int) {
	l := nums(strings.Fields(part))
	return l[0], l[1:]
}

// nums are numbers by their words.
func nums(words []string) []int {
	var l []int
	for _, word := range words {
		l = append(l, num(word))
	}
	return l
}

// num is a number by its word.
func num(word string) int {
	n, _ := strconv.Atoi(word)
	return n
}
