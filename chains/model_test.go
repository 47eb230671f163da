package chains_test

import (
	"maps"
	"slices"
	"testing"

	"chains/api"
	"chains/chains"
)

// model reckons, from the states that Interpret goes through, which blocks a run finds. It knows no records and no memory of its own: of a block it keeps the address and how many instructions it has.
type model struct {
	slots   map[int]api.Block
	number  int
	arena   int
	sum     int
	blocks  map[uint32]api.Block
	left    int // instructions of the block that is being done
	clears  int
	driven  int // blocks that another one has driven out
	entered int
	forgot  int
	cut     int // blocks that were left ahead of their end
}

func (m *model) find(address uint32, length int) {
	slot := int(address/4) % m.number
	kept, ok := m.slots[slot]
	b := m.blocks[address]
	if !ok || kept.PC != address {
		if m.sum+length > m.arena {
			m.slots, m.sum = map[int]api.Block{}, 0
			m.clears++
		} else if ok {
			m.driven++
		}
		m.sum += length
		b.PC, b.Len, b.Built = address, length, b.Built+1
		m.slots[slot] = b
	}
	b.Entered++
	m.entered++
	m.blocks[address] = b
	m.left = length
}

func (m *model) forget(first, last uint32, pc uint32) {
	for page := first / 64; page <= last/64; page++ {
		for slot, b := range m.slots {
			if b.PC/64 == page {
				delete(m.slots, slot)
				m.forgot++
			}
		}
		if pc/64 == page && m.left > 0 {
			m.left = 0
			m.cut++
		}
	}
}

// instructionAt is for all addresses, also those where none can stand.
func instructionAt(memory string, address uint32) (api.Instr, bool) {
	if address%4 != 0 || uint64(address)+4 > uint64(len(memory)) {
		return api.Instr{}, false
	}
	return chains.Decode(numberAt(memory, address, 4))
}

func blockLength(memory string, address uint32) int {
	for length := range 8 {
		here := address + uint32(4*length)
		in, ok := instructionAt(memory, here)
		if !ok || here/64 != address/64 {
			return length
		}
		if in.Op >= api.JAL && in.Op <= api.BGEU || in.Op >= api.ECALL {
			return length + 1
		}
	}
	return 8
}

// written answers the first and the last byte that the instruction has written, between the two states.
func written(in api.Instr, before, behind api.Report) (first, last uint32, ok bool) {
	if in.Op >= api.SB && in.Op <= api.SW {
		first = before.Regs[in.Rs1] + uint32(in.Imm)
		return first, first + 1<<(in.Op-api.SB) - 1, true
	}
	if len(behind.Events) == len(before.Events) {
		return 0, 0, false
	}
	event := behind.Events[len(behind.Events)-1]
	first = before.Regs[11]
	return first, first + event.Result - 1, event.Call == 63 && event.Result > 0
}

// states are what Interpret has come to after no, one, two .. instructions, to the run's end.
func states(t *testing.T, s api.Setup) []api.Report {
	t.Helper()
	var all []api.Report
	for fuel := range s.Fuel + 1 {
		s.Fuel = fuel
		r, err := chains.Interpret(s)
		if err != api.OK {
			t.Fatalf("Interpret(%#v) has the error %d", s, err)
		}
		all = append(all, r)
		if r.Outcome != api.OutOfFuel {
			break
		}
	}
	return all
}

func modelOf(s api.Setup, states []api.Report) *model {
	m := &model{slots: map[int]api.Block{}, number: s.Slots, arena: s.Arena, blocks: map[uint32]api.Block{}}
	for i, state := range states {
		in, ok := instructionAt(state.Memory, state.PC)
		if !ok || state.Steps >= s.Fuel || state.Outcome == api.Exited {
			break // what ends the run here is no instruction, or one that was done
		}
		if m.left == 0 {
			m.find(state.PC, blockLength(state.Memory, state.PC))
		}
		m.left--
		if i+1 == len(states) || states[i+1].Steps == state.Steps {
			break
		}
		if first, last, ok := written(in, state, states[i+1]); ok {
			m.forget(first, last, state.PC)
		}
	}
	return m
}

func (m *model) built() int {
	sum := 0
	for _, b := range m.blocks {
		sum += b.Built
	}
	return sum
}

func (m *model) list() []api.Block {
	return slices.SortedFunc(maps.Values(m.blocks), func(a, b api.Block) int { return int(a.PC) - int(b.PC) })
}

// dice are thrown alike in each run of the tests.
type dice struct{ seed uint64 }

func (d *dice) throw(sides int) int {
	d.seed = d.seed*6364136223846793005 + 1442695040888963407
	return int(d.seed>>33) % sides
}

// instruction is one for programs that go round in few pages and write over themselves.
func (d *dice) instruction(here, words int) api.Instr {
	register := func() int { return d.throw(4) }
	address := int32(4 * d.throw(words))
	back := address - int32(4*here)
	switch d.throw(18) {
	case 0, 1:
		return toAddress(api.BEQ+api.Op(d.throw(6)), register(), register(), back)
	case 2:
		return jal(register(), back)
	case 3:
		return withImm(api.JALR, register(), 0, address)
	case 4, 5:
		return toAddress(api.SW, 0, register(), address)
	case 6:
		return toAddress(api.SB, 0, register(), address+int32(d.throw(4)))
	case 7:
		return toAddress(api.SH, 0, register(), address+int32(2*d.throw(2)))
	case 8, 9, 10:
		return withImm(api.LW, register(), 0, address)
	case 11:
		return addi(17, 0, int32(63+d.throw(2)))
	case 12:
		return addi(11, 0, address+int32(d.throw(4)))
	case 13:
		return addi(12, 0, int32(d.throw(70)))
	case 14:
		return ecall()
	case 15:
		return []api.Instr{fence(), ebreak(), addi(17, 0, 93), fence()}[d.throw(4)]
	}
	return addi(register(), register(), int32(d.throw(5)-2))
}

func (d *dice) program() api.Setup {
	pages := 1 + d.throw(4)
	words := 16 * pages
	list := make([]api.Instr, words)
	for here := range list {
		list[here] = d.instruction(here, words)
	}
	s := api.Setup{Pages: pages, Image: code(list...), Entry: uint32(4 * d.throw(words)), Fuel: 1 + d.throw(80)}
	for range d.throw(6) {
		first, second := d.throw(words), d.throw(words)
		s.Answers = append(s.Answers, code(list[min(first, second):max(first, second)]...))
	}
	return s
}

func TestP12P13P14P15AgainstAModel(t *testing.T) {
	var d dice
	var all model
	outcomes := map[api.Outcome]int{}
	for range 3000 {
		s := d.program()
		states := states(t, s)
		outcomes[states[len(states)-1].Outcome]++
		for _, c := range [][2]int{{1, 8}, {64, 256}, {1 + d.throw(8), 8 + d.throw(20)}, {1 + d.throw(64), 8 + d.throw(40)}, {64, 8 + d.throw(30)}} {
			s.Slots, s.Arena = c[0], c[1]
			m := modelOf(s, states)
			if got := run(t, s).Built; got != m.built() {
				t.Fatalf("Run(%#v) builds %d blocks, want %d", s, got, m.built())
			}
			checkProfile(t, s, m.list()...)
			all.clears, all.driven, all.forgot, all.cut = all.clears+m.clears, all.driven+m.driven, all.forgot+m.forgot, all.cut+m.cut
			all.entered += m.entered - m.built() // those that were not built for it
		}
		interpret(t, s)
	}
	if min(all.clears, all.driven, all.forgot, all.cut, all.entered) < 1000 || len(outcomes) < 10 {
		t.Errorf("the programs try too little: %+v, outcomes %v", all, outcomes)
	}
}
