package machine

import "chains/api"

// RunBlocks does instructions in blocks, so many as the fuel lets, and answers how the run ended.
func (m *Machine) RunBlocks(fuel, slots, arena int) api.Outcome {
	m.cache = newCache(slots, arena)
	return outcomeOf(func() { m.doBlocks(fuel) })
}

// doBlocks leaves a block that has written over its own page, for what stands there now may be something else.
func (m *Machine) doBlocks(fuel int) {
blocks:
	for m.steps < fuel {
		b := m.find()
		for _, s := range b.steps[:min(len(b.steps), fuel-m.steps)] {
			m.do(s)
			if !m.cache.has(b.address) {
				continue blocks
			}
		}
	}
}

// find answers the block at the pc, which is then entered, or ends the run, if no instruction stands there. One that is kept need not be decoded: it would not be there, had its page been written into.
func (m *Machine) find() block {
	m.guard(m.pc, 4, api.FetchAlign, api.FetchFault)
	if !m.cache.has(m.pc) {
		m.cache.keep(m.build())
	}
	b := *m.cache.slot(m.pc)
	m.cache.profile.countEntered(b)
	return b
}

// build makes the block at the pc, whose word must lie in the memory, or ends the run, if that is no instruction.
func (m *Machine) build() block {
	b := block{address: m.pc}
	room := min(api.MaxBlock*4, api.PageSize-m.pc%api.PageSize)
	for address := m.pc; address < m.pc+room; address += 4 {
		s, ok := m.ready(address)
		if !ok {
			break
		}
		b.steps = append(b.steps, s)
		if endsBlock(s.in.Op) {
			break
		}
	}
	if len(b.steps) == 0 {
		end(api.Illegal)
	}
	return b
}

// endsBlock is for the instructions that may lead elsewhere, and for those that leave the program.
func endsBlock(op api.Op) bool {
	switch op {
	case api.JAL, api.JALR, api.BEQ, api.BNE, api.BLT, api.BGE, api.BLTU, api.BGEU, api.ECALL, api.EBREAK:
		return true
	}
	return false
}
