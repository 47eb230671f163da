package chains_test

import (
	"testing"

	"chains/api"
	"chains/chains"
)

// form tells which fields an instruction has, and where the bits of its immediate lie in the word.
type form struct {
	rd, rs1, rs2 bool
	bits         []int // the places in the word, the highest bit of the immediate first
	zeros        int   // that many 0 follow behind them
	signed       bool
}

// row is an instruction of the document's table: a word is this one, if it has these bits under the mask.
type row struct {
	op         api.Op
	mask, bits uint32
	form       form
}

func span(high, low int) []int {
	var places []int
	for place := high; place >= low; place-- {
		places = append(places, place)
	}
	return places
}

func join(lists ...[]int) []int {
	var all []int
	for _, list := range lists {
		all = append(all, list...)
	}
	return all
}

var (
	formU     = form{rd: true, bits: span(31, 12), zeros: 12, signed: true}
	formJ     = form{rd: true, bits: join(span(31, 31), span(19, 12), span(20, 20), span(30, 21)), zeros: 1, signed: true}
	formB     = form{rs1: true, rs2: true, bits: join(span(31, 31), span(7, 7), span(30, 25), span(11, 8)), zeros: 1, signed: true}
	formI     = form{rd: true, rs1: true, bits: span(31, 20), signed: true}
	formS     = form{rs1: true, rs2: true, bits: join(span(31, 25), span(11, 7)), signed: true}
	formShift = form{rd: true, rs1: true, bits: span(24, 20)}
	formR     = form{rd: true, rs1: true, rs2: true}
	formNone  = form{}
)

const (
	maskOpcode = 0x7F
	maskFunct3 = 0x707F
	maskFunct7 = 0xFE00707F
	maskWord   = 0xFFFFFFFF
)

func rows() []row {
	return []row{
		{api.LUI, maskOpcode, 0x37, formU}, {api.AUIPC, maskOpcode, 0x17, formU},
		{api.JAL, maskOpcode, 0x6F, formJ}, {api.JALR, maskFunct3, 0x0067, formI},
		{api.BEQ, maskFunct3, 0x0063, formB}, {api.BNE, maskFunct3, 0x1063, formB},
		{api.BLT, maskFunct3, 0x4063, formB}, {api.BGE, maskFunct3, 0x5063, formB},
		{api.BLTU, maskFunct3, 0x6063, formB}, {api.BGEU, maskFunct3, 0x7063, formB},
		{api.LB, maskFunct3, 0x0003, formI}, {api.LH, maskFunct3, 0x1003, formI},
		{api.LW, maskFunct3, 0x2003, formI}, {api.LBU, maskFunct3, 0x4003, formI},
		{api.LHU, maskFunct3, 0x5003, formI},
		{api.SB, maskFunct3, 0x0023, formS}, {api.SH, maskFunct3, 0x1023, formS},
		{api.SW, maskFunct3, 0x2023, formS},
		{api.ADDI, maskFunct3, 0x0013, formI}, {api.SLTI, maskFunct3, 0x2013, formI},
		{api.SLTIU, maskFunct3, 0x3013, formI}, {api.XORI, maskFunct3, 0x4013, formI},
		{api.ORI, maskFunct3, 0x6013, formI}, {api.ANDI, maskFunct3, 0x7013, formI},
		{api.SLLI, maskFunct7, 0x00001013, formShift}, {api.SRLI, maskFunct7, 0x00005013, formShift},
		{api.SRAI, maskFunct7, 0x40005013, formShift},
		{api.ADD, maskFunct7, 0x00000033, formR}, {api.SUB, maskFunct7, 0x40000033, formR},
		{api.SLL, maskFunct7, 0x00001033, formR}, {api.SLT, maskFunct7, 0x00002033, formR},
		{api.SLTU, maskFunct7, 0x00003033, formR}, {api.XOR, maskFunct7, 0x00004033, formR},
		{api.SRL, maskFunct7, 0x00005033, formR}, {api.SRA, maskFunct7, 0x40005033, formR},
		{api.OR, maskFunct7, 0x00006033, formR}, {api.AND, maskFunct7, 0x00007033, formR},
		{api.MUL, maskFunct7, 0x02000033, formR}, {api.MULH, maskFunct7, 0x02001033, formR},
		{api.MULHSU, maskFunct7, 0x02002033, formR}, {api.MULHU, maskFunct7, 0x02003033, formR},
		{api.DIV, maskFunct7, 0x02004033, formR}, {api.DIVU, maskFunct7, 0x02005033, formR},
		{api.REM, maskFunct7, 0x02006033, formR}, {api.REMU, maskFunct7, 0x02007033, formR},
		{api.FENCE, maskFunct3, 0x000F, formNone}, {api.FENCE, maskFunct3, 0x100F, formNone},
		{api.ECALL, maskWord, 0x00000073, formNone}, {api.EBREAK, maskWord, 0x00100073, formNone},
	}
}

func (f form) read(op api.Op, word uint32) api.Instr {
	in := api.Instr{Op: op, Imm: int32(f.immediate(word))}
	if f.rd {
		in.Rd = int(word >> 7 & 31)
	}
	if f.rs1 {
		in.Rs1 = int(word >> 15 & 31)
	}
	if f.rs2 {
		in.Rs2 = int(word >> 20 & 31)
	}
	return in
}

func (f form) immediate(word uint32) int64 {
	value := int64(0)
	for _, place := range f.bits {
		value = value<<1 | int64(word>>place&1)
	}
	if f.signed && word>>31 == 1 {
		value -= 1 << len(f.bits)
	}
	return value << f.zeros
}

func expected(table []row, word uint32) (api.Instr, bool) {
	for _, r := range table {
		if word&r.mask == r.bits {
			return r.form.read(r.op, word), true
		}
	}
	return api.Instr{}, false
}

func checkDecode(t *testing.T, word uint32, want api.Instr, wantOK bool) {
	t.Helper()
	if got, ok := chains.Decode(word); got != want || ok != wantOK {
		t.Fatalf("Decode(%08X) = %+v, %v, want %+v, %v", word, got, ok, want, wantOK)
	}
}

func TestP3Examples(t *testing.T) {
	checkDecode(t, 0x00500093, api.Instr{Op: api.ADDI, Rd: 1, Imm: 5}, true)
	checkDecode(t, 0x002081B3, api.Instr{Op: api.ADD, Rd: 3, Rs1: 1, Rs2: 2}, true)
	checkDecode(t, 0xFE000EE3, api.Instr{Op: api.BEQ, Imm: -4}, true)
	checkDecode(t, 0x0000006F, api.Instr{Op: api.JAL}, true)
	for _, word := range []uint32{0x00000000, 0xFFFFFFFF, 0x40001013} {
		checkDecode(t, word, api.Instr{}, false)
	}
}

func TestP3Immediates(t *testing.T) {
	for _, c := range []struct {
		word uint32
		want api.Instr
	}{
		{0x7FF00013, api.Instr{Op: api.ADDI, Imm: 2047}},
		{0x80000013, api.Instr{Op: api.ADDI, Imm: -2048}},
		{0xFFF00013, api.Instr{Op: api.ADDI, Imm: -1}},
		{0x7E000FA3, api.Instr{Op: api.SB, Imm: 2047}},
		{0x80000023, api.Instr{Op: api.SB, Imm: -2048}},
		{0xFE000FA3, api.Instr{Op: api.SB, Imm: -1}},
		{0x7E000FE3, api.Instr{Op: api.BEQ, Imm: 4094}},
		{0x80000063, api.Instr{Op: api.BEQ, Imm: -4096}},
		{0x000000E3, api.Instr{Op: api.BEQ, Imm: 2048}},
		{0x7FFFF037, api.Instr{Op: api.LUI, Imm: 0x7FFFF000}},
		{0x80000037, api.Instr{Op: api.LUI, Imm: -0x80000000}},
		{0xFFFFF017, api.Instr{Op: api.AUIPC, Imm: -4096}},
		{0x7FFFF06F, api.Instr{Op: api.JAL, Imm: 1048574}},
		{0x8000006F, api.Instr{Op: api.JAL, Imm: -1048576}},
		{0x0010006F, api.Instr{Op: api.JAL, Imm: 2048}},
		{0x0000106F, api.Instr{Op: api.JAL, Imm: 4096}},
		{0x01F01013, api.Instr{Op: api.SLLI, Imm: 31}},
		{0x41F05013, api.Instr{Op: api.SRAI, Imm: 31}},
	} {
		checkDecode(t, c.word, c.want, true)
	}
}

// Every bit of every instruction is set and cleared alone, so that no place of an immediate or a register is mistaken for another.
func TestP3EachBit(t *testing.T) {
	table := rows()
	for _, r := range table {
		for _, rest := range []uint32{0, 0xFFFFFFFF} {
			word := r.bits | rest&^r.mask
			checkDecode(t, word, r.form.read(r.op, word), true)
			for place := range 32 {
				turned := word ^ 1<<place
				want, ok := expected(table, turned)
				checkDecode(t, turned, want, ok)
			}
		}
	}
}

// All opcodes with all funct3 and funct7, the ones that the table has not among them.
func TestP3EachOpcode(t *testing.T) {
	table := rows()
	rests := []uint32{0, 0x01FF8F80, 0x00100000, 0x00000080, 0x00A98A80, 0x01550500}
	for opcode := range uint32(128) {
		for funct3 := range uint32(8) {
			for funct7 := range uint32(128) {
				for _, rest := range rests {
					word := funct7<<25 | funct3<<12 | opcode | rest
					want, ok := expected(table, word)
					checkDecode(t, word, want, ok)
				}
			}
		}
	}
}

func TestP3FieldsNotNamedAreZero(t *testing.T) {
	for _, c := range []struct {
		word uint32
		want api.Instr
	}{
		{0x000FFFB7, api.Instr{Op: api.LUI, Rd: 31, Imm: 0xFF000}},
		{0x001F8F93, api.Instr{Op: api.ADDI, Rd: 31, Rs1: 31, Imm: 1}},
		{0x001F9F93, api.Instr{Op: api.SLLI, Rd: 31, Rs1: 31, Imm: 1}},
		{0x01FF8033, api.Instr{Op: api.ADD, Rs1: 31, Rs2: 31}},
		{0x01FF8FA3, api.Instr{Op: api.SB, Rs1: 31, Rs2: 31, Imm: 31}},
		{0x01FF8F63, api.Instr{Op: api.BEQ, Rs1: 31, Rs2: 31, Imm: 30}},
		{0xFFFF8F8F, api.Instr{Op: api.FENCE}},
		{0xFFFF9F8F, api.Instr{Op: api.FENCE}},
	} {
		checkDecode(t, c.word, c.want, true)
	}
}

func TestP3SystemWordsAlone(t *testing.T) {
	checkDecode(t, 0x00000073, api.Instr{Op: api.ECALL}, true)
	checkDecode(t, 0x00100073, api.Instr{Op: api.EBREAK}, true)
	for _, word := range []uint32{0x000000F3, 0x001000F3, 0x00200073, 0x00300073, 0x00008073, 0x00108073, 0x00001073, 0x00101073, 0x02000073, 0x10500073, 0x30200073, 0x80000073, 0x80100073} {
		checkDecode(t, word, api.Instr{}, false)
	}
}

func TestP3NoInstruction(t *testing.T) {
	for _, word := range []uint32{
		0x00000001, 0x00000010, 0x00000012, 0x0000007F, // opcodes that are none
		0x00001067, 0x00007067, // JALR has funct3 0 alone
		0x00002063, 0x00003063, 0x00003003, 0x00006003, 0x00007003, 0x00003023, 0x00004023, 0x00007023,
		0x02001013, 0x40001013, 0x02005013, 0x60005013, 0x80005013, // shifts with a funct7 that is none
		0x40001033, 0x40007033, 0x04000033, 0x60000033, 0x42000033, 0x80000033,
		0x0000200F, 0x0000700F,
	} {
		checkDecode(t, word, api.Instr{}, false)
	}
}
