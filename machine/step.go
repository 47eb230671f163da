package machine

import (
	"chains/api"
	"chains/decode"
)

// step is an instruction made ready to be done: what does it, and what that is given.
type step struct {
	action func(*Machine, api.Instr)
	in     api.Instr
}

// fetch makes the instruction at the pc ready, or ends the run, if there is none.
func (m *Machine) fetch() step {
	m.guard(m.pc, 4, api.FetchAlign, api.FetchFault)
	s, ok := m.ready(m.pc)
	if !ok {
		end(api.Illegal)
	}
	return s
}

// ready makes the instruction at the address ready, if there is one. The word must lie in the memory.
func (m *Machine) ready(address uint32) (step, bool) {
	in, ok := decode.Word(m.read(address, 4))
	if !ok {
		return step{}, false
	}
	return step{actionOf(in.Op), in}, true
}

// do moves the pc and counts only behind the action, for an action that ends the run is not done.
func (m *Machine) do(s step) {
	m.next = m.pc + 4
	s.action(m, s.in)
	m.pc = m.next
	m.steps++
}

// actionOf answers the method that does the operation.
func actionOf(op api.Op) func(*Machine, api.Instr) {
	switch op {
	case api.LUI:
		return (*Machine).upper
	case api.AUIPC:
		return (*Machine).upperFromHere
	case api.JAL:
		return (*Machine).jumpFromHere
	case api.JALR:
		return (*Machine).jumpFromRegister
	case api.BEQ:
		return (*Machine).branchEqual
	case api.BNE:
		return (*Machine).branchNotEqual
	case api.BLT:
		return (*Machine).branchLess
	case api.BGE:
		return (*Machine).branchNotLess
	case api.BLTU:
		return (*Machine).branchLessUnsigned
	case api.BGEU:
		return (*Machine).branchNotLessUnsigned
	case api.LB:
		return (*Machine).loadByte
	case api.LH:
		return (*Machine).loadHalf
	case api.LW:
		return (*Machine).loadWord
	case api.LBU:
		return (*Machine).loadByteUnsigned
	case api.LHU:
		return (*Machine).loadHalfUnsigned
	case api.SB:
		return (*Machine).storeByte
	case api.SH:
		return (*Machine).storeHalf
	case api.SW:
		return (*Machine).storeWord
	case api.FENCE:
		return (*Machine).nothing
	case api.ECALL:
		return (*Machine).call
	case api.EBREAK:
		return (*Machine).stop
	}
	return reckoning(op)
}

// reckoning is for the operations from ADDI to REMU: those up to SRAI take the immediate for their second number.
func reckoning(op api.Op) func(*Machine, api.Instr) {
	if op <= api.SRAI {
		return (*Machine).reckonImmediate
	}
	return (*Machine).reckon
}
