package chains_test

import (
	"fmt"
	"strings"
	"testing"

	"chains/api"
	"chains/chains"
)

// lay spreads the fields of the instruction over the word: the inverse of read.
func (f form) lay(in api.Instr) uint32 {
	word := uint32(in.Rd)<<7 | uint32(in.Rs1)<<15 | uint32(in.Rs2)<<20
	value := uint32(in.Imm) >> f.zeros
	for i, place := range f.bits {
		word |= value >> (len(f.bits) - 1 - i) & 1 << place
	}
	return word
}

// word panics at instructions that have no word, for a test that asks for one is wrong.
func word(in api.Instr) uint32 {
	for _, r := range rows() {
		if r.op != in.Op {
			continue
		}
		w := r.bits | r.form.lay(in)
		if r.form.read(r.op, w) != in {
			panic(fmt.Sprintf("%+v does not fit into a word", in))
		}
		return w
	}
	panic(fmt.Sprintf("no instruction has the operation %d", in.Op))
}

func bytesOf(words ...uint32) string {
	var b strings.Builder
	for _, w := range words {
		b.Write([]byte{byte(w), byte(w >> 8), byte(w >> 16), byte(w >> 24)})
	}
	return b.String()
}

func code(list ...api.Instr) string {
	var b strings.Builder
	for _, in := range list {
		b.WriteString(bytesOf(word(in)))
	}
	return b.String()
}

func addi(rd, rs1 int, imm int32) api.Instr {
	return api.Instr{Op: api.ADDI, Rd: rd, Rs1: rs1, Imm: imm}
}

// withImm is for all instructions of a destination, a register and an immediate: loads, JALR and the ones with an I.
func withImm(op api.Op, rd, rs1 int, imm int32) api.Instr {
	return api.Instr{Op: op, Rd: rd, Rs1: rs1, Imm: imm}
}

// toAddress is for the stores and branches.
func toAddress(op api.Op, rs1, rs2 int, imm int32) api.Instr {
	return api.Instr{Op: op, Rs1: rs1, Rs2: rs2, Imm: imm}
}

func jal(rd int, imm int32) api.Instr { return api.Instr{Op: api.JAL, Rd: rd, Imm: imm} }

func ebreak() api.Instr { return api.Instr{Op: api.EBREAK} }

func fence() api.Instr { return api.Instr{Op: api.FENCE} }

// set makes the register have the number, in two instructions whatever it is.
func set(register int, number uint32) []api.Instr {
	low := int32(number<<20) >> 20
	return []api.Instr{
		{Op: api.LUI, Rd: register, Imm: int32(number) - low},
		addi(register, register, low),
	}
}

// after puts the last instructions behind the first.
func after(first []api.Instr, last ...api.Instr) []api.Instr {
	return append(append([]api.Instr{}, first...), last...)
}

// The tests lean on the words that they make, so these are held against Decode.
func TestWordsAreRead(t *testing.T) {
	for _, in := range []api.Instr{
		addi(1, 2, -2048), addi(31, 31, 2047), withImm(api.SRAI, 1, 2, 31), withImm(api.JALR, 3, 4, -1), withImm(api.LHU, 5, 6, 1),
		toAddress(api.SW, 7, 8, -4), toAddress(api.BGEU, 9, 10, -4096), jal(1, 1<<20-2), jal(0, -1<<20), ebreak(), fence(),
		{Op: api.LUI, Rd: 1, Imm: -4096}, {Op: api.REMU, Rd: 1, Rs1: 2, Rs2: 3},
	} {
		checkDecode(t, word(in), in, true)
	}
	for _, n := range numbers() {
		r, _ := chains.Interpret(api.Setup{Pages: 1, Image: code(set(1, n)...), Fuel: 2})
		if r.Regs[1] != n {
			t.Errorf("set(1, %08X) sets %08X", n, r.Regs[1])
		}
	}
}
