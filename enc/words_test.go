package enc_test

import (
	"testing"

	"marline/api"
	"marline/enc"
)

// wordRow is an instruction, and its word by an assembler of the machine's.
type wordRow struct {
	o api.Op
	w uint32
}

// wordRows have every kind, with registers 0 and 31, and the least and the greatest Imm.
var wordRows = []wordRow{
	{api.Op{Kind: api.KAdd}, 0x00000033},                              // add x0,x0,x0
	{api.Op{Kind: api.KAdd, Rd: 31, A: 31, B: 31}, 0x01ff8fb3},        // add x31,x31,x31
	{api.Op{Kind: api.KAdd, Rd: 5, A: 17, B: 30}, 0x01e882b3},         // add x5,x17,x30
	{api.Op{Kind: api.KSub}, 0x40000033},                              // sub x0,x0,x0
	{api.Op{Kind: api.KSub, Rd: 31, A: 31, B: 31}, 0x41ff8fb3},        // sub x31,x31,x31
	{api.Op{Kind: api.KSub, Rd: 5, A: 17, B: 30}, 0x41e882b3},         // sub x5,x17,x30
	{api.Op{Kind: api.KSll}, 0x00001033},                              // sll x0,x0,x0
	{api.Op{Kind: api.KSll, Rd: 31, A: 31, B: 31}, 0x01ff9fb3},        // sll x31,x31,x31
	{api.Op{Kind: api.KSll, Rd: 5, A: 17, B: 30}, 0x01e892b3},         // sll x5,x17,x30
	{api.Op{Kind: api.KSltu}, 0x00003033},                             // sltu x0,x0,x0
	{api.Op{Kind: api.KSltu, Rd: 31, A: 31, B: 31}, 0x01ffbfb3},       // sltu x31,x31,x31
	{api.Op{Kind: api.KSltu, Rd: 5, A: 17, B: 30}, 0x01e8b2b3},        // sltu x5,x17,x30
	{api.Op{Kind: api.KXor}, 0x00004033},                              // xor x0,x0,x0
	{api.Op{Kind: api.KXor, Rd: 31, A: 31, B: 31}, 0x01ffcfb3},        // xor x31,x31,x31
	{api.Op{Kind: api.KXor, Rd: 5, A: 17, B: 30}, 0x01e8c2b3},         // xor x5,x17,x30
	{api.Op{Kind: api.KSrl}, 0x00005033},                              // srl x0,x0,x0
	{api.Op{Kind: api.KSrl, Rd: 31, A: 31, B: 31}, 0x01ffdfb3},        // srl x31,x31,x31
	{api.Op{Kind: api.KSrl, Rd: 5, A: 17, B: 30}, 0x01e8d2b3},         // srl x5,x17,x30
	{api.Op{Kind: api.KOr}, 0x00006033},                               // or x0,x0,x0
	{api.Op{Kind: api.KOr, Rd: 31, A: 31, B: 31}, 0x01ffefb3},         // or x31,x31,x31
	{api.Op{Kind: api.KOr, Rd: 5, A: 17, B: 30}, 0x01e8e2b3},          // or x5,x17,x30
	{api.Op{Kind: api.KAnd}, 0x00007033},                              // and x0,x0,x0
	{api.Op{Kind: api.KAnd, Rd: 31, A: 31, B: 31}, 0x01ffffb3},        // and x31,x31,x31
	{api.Op{Kind: api.KAnd, Rd: 5, A: 17, B: 30}, 0x01e8f2b3},         // and x5,x17,x30
	{api.Op{Kind: api.KMul}, 0x02000033},                              // mul x0,x0,x0
	{api.Op{Kind: api.KMul, Rd: 31, A: 31, B: 31}, 0x03ff8fb3},        // mul x31,x31,x31
	{api.Op{Kind: api.KMul, Rd: 5, A: 17, B: 30}, 0x03e882b3},         // mul x5,x17,x30
	{api.Op{Kind: api.KDivu}, 0x02005033},                             // divu x0,x0,x0
	{api.Op{Kind: api.KDivu, Rd: 31, A: 31, B: 31}, 0x03ffdfb3},       // divu x31,x31,x31
	{api.Op{Kind: api.KDivu, Rd: 5, A: 17, B: 30}, 0x03e8d2b3},        // divu x5,x17,x30
	{api.Op{Kind: api.KRemu}, 0x02007033},                             // remu x0,x0,x0
	{api.Op{Kind: api.KRemu, Rd: 31, A: 31, B: 31}, 0x03ffffb3},       // remu x31,x31,x31
	{api.Op{Kind: api.KRemu, Rd: 5, A: 17, B: 30}, 0x03e8f2b3},        // remu x5,x17,x30
	{api.Op{Kind: api.KAddi}, 0x00000013},                             // addi x0,x0,0
	{api.Op{Kind: api.KAddi, Rd: 31, A: 31, Imm: -2048}, 0x800f8f93},  // addi x31,x31,-2048
	{api.Op{Kind: api.KAddi, Rd: 9, A: 22, Imm: 2047}, 0x7ffb0493},    // addi x9,x22,2047
	{api.Op{Kind: api.KAddi, Rd: 1, A: 2, Imm: -1}, 0xfff10093},       // addi x1,x2,-1
	{api.Op{Kind: api.KSltiu}, 0x00003013},                            // sltiu x0,x0,0
	{api.Op{Kind: api.KSltiu, Rd: 31, A: 31, Imm: -2048}, 0x800fbf93}, // sltiu x31,x31,-2048
	{api.Op{Kind: api.KSltiu, Rd: 9, A: 22, Imm: 2047}, 0x7ffb3493},   // sltiu x9,x22,2047
	{api.Op{Kind: api.KSltiu, Rd: 1, A: 2, Imm: -1}, 0xfff13093},      // sltiu x1,x2,-1
	{api.Op{Kind: api.KXori}, 0x00004013},                             // xori x0,x0,0
	{api.Op{Kind: api.KXori, Rd: 31, A: 31, Imm: -2048}, 0x800fcf93},  // xori x31,x31,-2048
	{api.Op{Kind: api.KXori, Rd: 9, A: 22, Imm: 2047}, 0x7ffb4493},    // xori x9,x22,2047
	{api.Op{Kind: api.KXori, Rd: 1, A: 2, Imm: -1}, 0xfff14093},       // xori x1,x2,-1
	{api.Op{Kind: api.KOri}, 0x00006013},                              // ori x0,x0,0
	{api.Op{Kind: api.KOri, Rd: 31, A: 31, Imm: -2048}, 0x800fef93},   // ori x31,x31,-2048
	{api.Op{Kind: api.KOri, Rd: 9, A: 22, Imm: 2047}, 0x7ffb6493},     // ori x9,x22,2047
	{api.Op{Kind: api.KOri, Rd: 1, A: 2, Imm: -1}, 0xfff16093},        // ori x1,x2,-1
	{api.Op{Kind: api.KAndi}, 0x00007013},                             // andi x0,x0,0
	{api.Op{Kind: api.KAndi, Rd: 31, A: 31, Imm: -2048}, 0x800fff93},  // andi x31,x31,-2048
	{api.Op{Kind: api.KAndi, Rd: 9, A: 22, Imm: 2047}, 0x7ffb7493},    // andi x9,x22,2047
	{api.Op{Kind: api.KAndi, Rd: 1, A: 2, Imm: -1}, 0xfff17093},       // andi x1,x2,-1
	{api.Op{Kind: api.KSlli}, 0x00001013},                             // slli x0,x0,0
	{api.Op{Kind: api.KSlli, Rd: 31, A: 31, Imm: 63}, 0x03ff9f93},     // slli x31,x31,63
	{api.Op{Kind: api.KSlli, Rd: 9, A: 22, Imm: 33}, 0x021b1493},      // slli x9,x22,33
	{api.Op{Kind: api.KSrli}, 0x00005013},                             // srli x0,x0,0
	{api.Op{Kind: api.KSrli, Rd: 31, A: 31, Imm: 63}, 0x03ffdf93},     // srli x31,x31,63
	{api.Op{Kind: api.KSrli, Rd: 9, A: 22, Imm: 33}, 0x021b5493},      // srli x9,x22,33
	{api.Op{Kind: api.KLd}, 0x00003003},                               // ld x0,0(x0)
	{api.Op{Kind: api.KLd, Rd: 31, A: 31, Imm: -2048}, 0x800fbf83},    // ld x31,-2048(x31)
	{api.Op{Kind: api.KLd, Rd: 9, A: 22, Imm: 2047}, 0x7ffb3483},      // ld x9,2047(x22)
	{api.Op{Kind: api.KLd, Rd: 1, A: 2, Imm: -1}, 0xfff13083},         // ld x1,-1(x2)
	{api.Op{Kind: api.KLbu}, 0x00004003},                              // lbu x0,0(x0)
	{api.Op{Kind: api.KLbu, Rd: 31, A: 31, Imm: -2048}, 0x800fcf83},   // lbu x31,-2048(x31)
	{api.Op{Kind: api.KLbu, Rd: 9, A: 22, Imm: 2047}, 0x7ffb4483},     // lbu x9,2047(x22)
	{api.Op{Kind: api.KLbu, Rd: 1, A: 2, Imm: -1}, 0xfff14083},        // lbu x1,-1(x2)
	{api.Op{Kind: api.KJalr}, 0x00000067},                             // jalr x0,0(x0)
	{api.Op{Kind: api.KJalr, Rd: 31, A: 31, Imm: -2048}, 0x800f8fe7},  // jalr x31,-2048(x31)
	{api.Op{Kind: api.KJalr, Rd: 9, A: 22, Imm: 2047}, 0x7ffb04e7},    // jalr x9,2047(x22)
	{api.Op{Kind: api.KJalr, Rd: 1, A: 2, Imm: -1}, 0xfff100e7},       // jalr x1,-1(x2)
	{api.Op{Kind: api.KSd}, 0x00003023},                               // sd x0,0(x0)
	{api.Op{Kind: api.KSd, A: 31, B: 31, Imm: -2048}, 0x81ffb023},     // sd x31,-2048(x31)
	{api.Op{Kind: api.KSd, A: 22, B: 9, Imm: 2047}, 0x7e9b3fa3},       // sd x9,2047(x22)
	{api.Op{Kind: api.KSd, A: 2, B: 1, Imm: -1}, 0xfe113fa3},          // sd x1,-1(x2)
	{api.Op{Kind: api.KSd, A: 2, B: 1, Imm: 31}, 0x00113fa3},          // sd x1,31(x2)
	{api.Op{Kind: api.KSd, A: 2, B: 1, Imm: 32}, 0x02113023},          // sd x1,32(x2)
	{api.Op{Kind: api.KSb}, 0x00000023},                               // sb x0,0(x0)
	{api.Op{Kind: api.KSb, A: 31, B: 31, Imm: -2048}, 0x81ff8023},     // sb x31,-2048(x31)
	{api.Op{Kind: api.KSb, A: 22, B: 9, Imm: 2047}, 0x7e9b0fa3},       // sb x9,2047(x22)
	{api.Op{Kind: api.KSb, A: 2, B: 1, Imm: -1}, 0xfe110fa3},          // sb x1,-1(x2)
	{api.Op{Kind: api.KSb, A: 2, B: 1, Imm: 31}, 0x00110fa3},          // sb x1,31(x2)
	{api.Op{Kind: api.KSb, A: 2, B: 1, Imm: 32}, 0x02110023},          // sb x1,32(x2)
	{api.Op{Kind: api.KBeq}, 0x00000063},                              // beq x0,x0,0
	{api.Op{Kind: api.KBeq, A: 31, B: 31, Imm: -4096}, 0x81ff8063},    // beq x31,x31,-4096
	{api.Op{Kind: api.KBeq, A: 9, B: 22, Imm: 4094}, 0x7f648fe3},      // beq x9,x22,4094
	{api.Op{Kind: api.KBeq, A: 1, B: 2, Imm: -2}, 0xfe208fe3},         // beq x1,x2,-2
	{api.Op{Kind: api.KBeq, A: 1, B: 2, Imm: 2048}, 0x002080e3},       // beq x1,x2,2048
	{api.Op{Kind: api.KBeq, A: 1, B: 2, Imm: 30}, 0x00208f63},         // beq x1,x2,30
	{api.Op{Kind: api.KBeq, A: 1, B: 2, Imm: 32}, 0x02208063},         // beq x1,x2,32
	{api.Op{Kind: api.KBne}, 0x00001063},                              // bne x0,x0,0
	{api.Op{Kind: api.KBne, A: 31, B: 31, Imm: -4096}, 0x81ff9063},    // bne x31,x31,-4096
	{api.Op{Kind: api.KBne, A: 9, B: 22, Imm: 4094}, 0x7f649fe3},      // bne x9,x22,4094
	{api.Op{Kind: api.KBne, A: 1, B: 2, Imm: -2}, 0xfe209fe3},         // bne x1,x2,-2
	{api.Op{Kind: api.KBne, A: 1, B: 2, Imm: 2048}, 0x002090e3},       // bne x1,x2,2048
	{api.Op{Kind: api.KBne, A: 1, B: 2, Imm: 30}, 0x00209f63},         // bne x1,x2,30
	{api.Op{Kind: api.KBne, A: 1, B: 2, Imm: 32}, 0x02209063},         // bne x1,x2,32
	{api.Op{Kind: api.KBltu}, 0x00006063},                             // bltu x0,x0,0
	{api.Op{Kind: api.KBltu, A: 31, B: 31, Imm: -4096}, 0x81ffe063},   // bltu x31,x31,-4096
	{api.Op{Kind: api.KBltu, A: 9, B: 22, Imm: 4094}, 0x7f64efe3},     // bltu x9,x22,4094
	{api.Op{Kind: api.KBltu, A: 1, B: 2, Imm: -2}, 0xfe20efe3},        // bltu x1,x2,-2
	{api.Op{Kind: api.KBltu, A: 1, B: 2, Imm: 2048}, 0x0020e0e3},      // bltu x1,x2,2048
	{api.Op{Kind: api.KBltu, A: 1, B: 2, Imm: 30}, 0x0020ef63},        // bltu x1,x2,30
	{api.Op{Kind: api.KBltu, A: 1, B: 2, Imm: 32}, 0x0220e063},        // bltu x1,x2,32
	{api.Op{Kind: api.KBgeu}, 0x00007063},                             // bgeu x0,x0,0
	{api.Op{Kind: api.KBgeu, A: 31, B: 31, Imm: -4096}, 0x81fff063},   // bgeu x31,x31,-4096
	{api.Op{Kind: api.KBgeu, A: 9, B: 22, Imm: 4094}, 0x7f64ffe3},     // bgeu x9,x22,4094
	{api.Op{Kind: api.KBgeu, A: 1, B: 2, Imm: -2}, 0xfe20ffe3},        // bgeu x1,x2,-2
	{api.Op{Kind: api.KBgeu, A: 1, B: 2, Imm: 2048}, 0x0020f0e3},      // bgeu x1,x2,2048
	{api.Op{Kind: api.KBgeu, A: 1, B: 2, Imm: 30}, 0x0020ff63},        // bgeu x1,x2,30
	{api.Op{Kind: api.KBgeu, A: 1, B: 2, Imm: 32}, 0x0220f063},        // bgeu x1,x2,32
	{api.Op{Kind: api.KLui}, 0x00000037},                              // lui x0,0
	{api.Op{Kind: api.KLui, Rd: 31, Imm: -2147483648}, 0x80000fb7},    // lui x31,524288
	{api.Op{Kind: api.KLui, Rd: 9, Imm: 2147479552}, 0x7ffff4b7},      // lui x9,524287
	{api.Op{Kind: api.KLui, Rd: 5, Imm: -4096}, 0xfffff2b7},           // lui x5,1048575
	{api.Op{Kind: api.KLui, Rd: 6, Imm: 4096}, 0x00001337},            // lui x6,1
	{api.Op{Kind: api.KAuipc}, 0x00000017},                            // auipc x0,0
	{api.Op{Kind: api.KAuipc, Rd: 31, Imm: -2147483648}, 0x80000f97},  // auipc x31,524288
	{api.Op{Kind: api.KAuipc, Rd: 9, Imm: 2147479552}, 0x7ffff497},    // auipc x9,524287
	{api.Op{Kind: api.KAuipc, Rd: 5, Imm: -4096}, 0xfffff297},         // auipc x5,1048575
	{api.Op{Kind: api.KAuipc, Rd: 6, Imm: 4096}, 0x00001317},          // auipc x6,1
	{api.Op{Kind: api.KJal}, 0x0000006f},                              // jal x0,0
	{api.Op{Kind: api.KJal, Rd: 31, Imm: -1048576}, 0x80000fef},       // jal x31,-1048576
	{api.Op{Kind: api.KJal, Rd: 1, Imm: 1048574}, 0x7ffff0ef},         // jal x1,1048574
	{api.Op{Kind: api.KJal, Imm: -4}, 0xffdff06f},                     // jal x0,-4
	{api.Op{Kind: api.KJal, Rd: 2, Imm: 2048}, 0x0010016f},            // jal x2,2048
	{api.Op{Kind: api.KJal, Rd: 3, Imm: 4096}, 0x000011ef},            // jal x3,4096
	{api.Op{Kind: api.KJal, Rd: 4, Imm: 2046}, 0x7fe0026f},            // jal x4,2046
	{api.Op{Kind: api.KEcall}, 0x00000073},                            // ecall
}

// TestWordRows: P1.1, ordinary instructions and the edges of each kind, against words that were not made here.
func TestWordRows(t *testing.T) {
	seen := map[int]int{}
	for _, x := range wordRows {
		seen[x.o.Kind]++
		if !enc.May(x.o) {
			t.Errorf("May(%+v) is false", x.o)
		}
		if w, e := enc.Word(x.o); w != x.w || e != api.OK {
			t.Errorf("Word(%+v) = %08x, %d, not %08x", x.o, w, e, x.w)
		}
		if o, e := enc.Take(x.w); o != x.o || e != api.OK {
			t.Errorf("Take(%08x) = %+v, %d, not %+v", x.w, o, e, x.o)
		}
	}
	for k := api.KAdd; k <= api.KEcall; k++ {
		if seen[k] == 0 {
			t.Errorf("kind %d has no row", k)
		}
	}
}

// TestExamples: the document's two.
func TestExamples(t *testing.T) {
	for _, x := range []wordRow{
		{api.Op{Kind: api.KAddi, Rd: 1, A: 2, Imm: -1}, 0xfff10093},
		{api.Op{Kind: api.KJal, Imm: -4}, 0xffdff06f},
	} {
		if w, e := enc.Word(x.o); w != x.w || e != api.OK {
			t.Errorf("Word(%+v) = %08x, %d, not %08x", x.o, w, e, x.w)
		}
	}
}
