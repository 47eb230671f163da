// Package decode reads a machine word as an instruction.
package decode

import "chains/api"

// none stands in the tables below where no instruction has the number. It is not 0, for 0 is LUI.
const none api.Op = -1

// The tables are asked by funct3.
var (
	branches = [8]api.Op{api.BEQ, api.BNE, none, none, api.BLT, api.BGE, api.BLTU, api.BGEU}
	loads    = [8]api.Op{api.LB, api.LH, api.LW, none, api.LBU, api.LHU, none, none}
	stores   = [8]api.Op{api.SB, api.SH, api.SW, none, none, none, none, none}

	// SLLI, SRLI and SRAI are missing here, for they need funct7 as well.
	immediates = [8]api.Op{api.ADDI, none, api.SLTI, api.SLTIU, api.XORI, none, api.ORI, api.ANDI}

	plain    = [8]api.Op{api.ADD, api.SLL, api.SLT, api.SLTU, api.XOR, api.SRL, api.OR, api.AND}
	opposite = [8]api.Op{api.SUB, none, none, none, none, api.SRA, none, none}
	products = [8]api.Op{api.MUL, api.MULH, api.MULHSU, api.MULHU, api.DIV, api.DIVU, api.REM, api.REMU}
)

// Word answers the instruction that the word is, or false, if it is none.
func Word(word uint32) (api.Instr, bool) {
	in := instruction(word)
	if in.Op == none {
		return api.Instr{}, false
	}
	return in, true
}

// instruction answers an instruction whose Op is none, if the word is none; its other fields then mean nothing.
func instruction(word uint32) api.Instr {
	switch opcode(word) {
	case 0x37:
		return api.Instr{Op: api.LUI, Rd: rd(word), Imm: immediateU(word)}
	case 0x17:
		return api.Instr{Op: api.AUIPC, Rd: rd(word), Imm: immediateU(word)}
	case 0x6F:
		return api.Instr{Op: api.JAL, Rd: rd(word), Imm: immediateJ(word)}
	case 0x67:
		return api.Instr{Op: jumpOp(word), Rd: rd(word), Rs1: rs1(word), Imm: immediateI(word)}
	case 0x63:
		return api.Instr{Op: branches[funct3(word)], Rs1: rs1(word), Rs2: rs2(word), Imm: immediateB(word)}
	case 0x03:
		return api.Instr{Op: loads[funct3(word)], Rd: rd(word), Rs1: rs1(word), Imm: immediateI(word)}
	case 0x23:
		return api.Instr{Op: stores[funct3(word)], Rs1: rs1(word), Rs2: rs2(word), Imm: immediateS(word)}
	case 0x13:
		return withImmediate(word)
	case 0x33:
		return api.Instr{Op: registerOp(word), Rd: rd(word), Rs1: rs1(word), Rs2: rs2(word)}
	case 0x0F:
		return api.Instr{Op: fenceOp(word)}
	case 0x73:
		return api.Instr{Op: systemOp(word)}
	}
	return api.Instr{Op: none}
}

func jumpOp(word uint32) api.Op {
	if funct3(word) == 0 {
		return api.JALR
	}
	return none
}

func withImmediate(word uint32) api.Instr {
	in := api.Instr{Op: immediates[funct3(word)], Rd: rd(word), Rs1: rs1(word), Imm: immediateI(word)}
	if in.Op == none {
		in.Op = shiftOp(word)
		in.Imm = int32(field(word, 20, 5))
	}
	return in
}

func shiftOp(word uint32) api.Op {
	f3, f7 := funct3(word), funct7(word)
	switch {
	case f3 == 1 && f7 == 0:
		return api.SLLI
	case f3 == 5 && f7 == 0:
		return api.SRLI
	case f3 == 5 && f7 == 0x20:
		return api.SRAI
	}
	return none
}

func registerOp(word uint32) api.Op {
	switch funct7(word) {
	case 0:
		return plain[funct3(word)]
	case 0x20:
		return opposite[funct3(word)]
	case 1:
		return products[funct3(word)]
	}
	return none
}

func fenceOp(word uint32) api.Op {
	if funct3(word) <= 1 {
		return api.FENCE
	}
	return none
}

// systemOp looks at the whole word, for no other word of this opcode is an instruction.
func systemOp(word uint32) api.Op {
	switch word {
	case 0x73:
		return api.ECALL
	case 0x100073:
		return api.EBREAK
	}
	return none
}
