package machine

import (
	"chains/api"
	"chains/compute"
)

// set leaves register 0 alone, for it is always 0.
func (m *Machine) set(register int, number uint32) {
	if register != 0 {
		m.registers[register] = number
	}
}

func (m *Machine) first(in api.Instr) uint32  { return m.registers[in.Rs1] }
func (m *Machine) second(in api.Instr) uint32 { return m.registers[in.Rs2] }

func (m *Machine) reckon(in api.Instr) {
	m.set(in.Rd, compute.Result(in.Op, m.first(in), m.second(in)))
}

func (m *Machine) reckonImmediate(in api.Instr) {
	m.set(in.Rd, compute.Result(in.Op, m.first(in), uint32(in.Imm)))
}

func (m *Machine) upper(in api.Instr)         { m.set(in.Rd, uint32(in.Imm)) }
func (m *Machine) upperFromHere(in api.Instr) { m.set(in.Rd, m.pc+uint32(in.Imm)) }

// jump comes ahead of every change of a register, for a jump that may not be taken is not done at all.
func (m *Machine) jump(target uint32) {
	if target%4 != 0 {
		end(api.FetchAlign)
	}
	m.next = target
}

func (m *Machine) jumpFromHere(in api.Instr) {
	m.jump(m.pc + uint32(in.Imm))
	m.set(in.Rd, m.pc+4)
}

func (m *Machine) jumpFromRegister(in api.Instr) {
	m.jump((m.first(in) + uint32(in.Imm)) &^ 1)
	m.set(in.Rd, m.pc+4)
}

func (m *Machine) branch(in api.Instr, taken bool) {
	if taken {
		m.jump(m.pc + uint32(in.Imm))
	}
}

func (m *Machine) less(in api.Instr) bool         { return int32(m.first(in)) < int32(m.second(in)) }
func (m *Machine) lessUnsigned(in api.Instr) bool { return m.first(in) < m.second(in) }

func (m *Machine) branchEqual(in api.Instr)           { m.branch(in, m.first(in) == m.second(in)) }
func (m *Machine) branchNotEqual(in api.Instr)        { m.branch(in, m.first(in) != m.second(in)) }
func (m *Machine) branchLess(in api.Instr)            { m.branch(in, m.less(in)) }
func (m *Machine) branchNotLess(in api.Instr)         { m.branch(in, !m.less(in)) }
func (m *Machine) branchLessUnsigned(in api.Instr)    { m.branch(in, m.lessUnsigned(in)) }
func (m *Machine) branchNotLessUnsigned(in api.Instr) { m.branch(in, !m.lessUnsigned(in)) }

func (m *Machine) load(in api.Instr, width uint32) uint32 {
	address := m.first(in) + uint32(in.Imm)
	m.guard(address, width, api.LoadAlign, api.LoadFault)
	return m.read(address, width)
}

func (m *Machine) loadByte(in api.Instr)         { m.set(in.Rd, uint32(int8(m.load(in, 1)))) }
func (m *Machine) loadHalf(in api.Instr)         { m.set(in.Rd, uint32(int16(m.load(in, 2)))) }
func (m *Machine) loadWord(in api.Instr)         { m.set(in.Rd, m.load(in, 4)) }
func (m *Machine) loadByteUnsigned(in api.Instr) { m.set(in.Rd, m.load(in, 1)) }
func (m *Machine) loadHalfUnsigned(in api.Instr) { m.set(in.Rd, m.load(in, 2)) }

func (m *Machine) store(in api.Instr, width uint32) {
	address := m.first(in) + uint32(in.Imm)
	m.guard(address, width, api.StoreAlign, api.StoreFault)
	m.write(address, width, m.second(in))
}

func (m *Machine) storeByte(in api.Instr) { m.store(in, 1) }
func (m *Machine) storeHalf(in api.Instr) { m.store(in, 2) }
func (m *Machine) storeWord(in api.Instr) { m.store(in, 4) }

func (m *Machine) nothing(api.Instr) {}

func (m *Machine) stop(api.Instr) { end(api.Break) }
