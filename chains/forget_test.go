package chains_test

import (
	"slices"
	"testing"

	"chains/api"
)

// visited is where the probe's blocks stand, one in each of its four pages.
func visited() []int { return []int{56, 96, 160, 224} }

// probe goes to a block in each page, does the action, and goes to them once more. There is room for four instructions.
func probe(action ...api.Instr) api.Setup {
	var list []api.Instr
	visit := func() {
		for _, to := range visited() {
			list = append(list, jal(1, int32(to-4*len(list))))
		}
	}
	visit()
	list = append(list, action...)
	visit()
	parts := []part{at(0, after(list, ebreak())...)}
	for _, address := range visited() {
		parts = append(parts, at(address, withImm(api.JALR, 0, 1, 0)))
	}
	return laid(4, parts...)
}

// checkForgotten asks which of the blocks that the probe visits are built again behind the action: those of the pages.
func checkForgotten(t *testing.T, s api.Setup, pages ...int) {
	t.Helper()
	built := map[uint32]int{}
	for _, address := range builtAt(t, s) {
		built[address]++
	}
	for page, address := range visited() {
		want := 1
		if slices.Contains(pages, page) {
			want = 2
		}
		if got := built[uint32(address)]; got != want {
			t.Fatalf("the block at %d is built %d times, want %d, in Run(%#v)", address, got, want, s)
		}
	}
	if r := interpret(t, s); r.Outcome != api.Break {
		t.Fatalf("the probe ends with the outcome %d at %d", r.Outcome, r.PC)
	}
}

// What is written is what was there already: also that makes blocks be forgotten, and all that the probe is made of may be written over.
func TestP14StoresAtAllAddresses(t *testing.T) {
	for _, c := range []struct {
		load, store api.Op
		width       int
	}{{api.LB, api.SB, 1}, {api.LHU, api.SH, 2}, {api.LW, api.SW, 4}} {
		for address := 0; address < 256; address += c.width {
			s := probe(withImm(c.load, 5, 0, int32(address)), toAddress(c.store, 0, 5, int32(address)))
			checkForgotten(t, s, address/64)
		}
	}
}

// reading reads the bytes that are there already, so many as are wanted and lie in the memory; asked is what register 12 has.
func reading(address, wanted, asked int) api.Setup {
	s := probe(addi(17, 0, 63), addi(11, 0, int32(address)), addi(12, 0, int32(asked)), ecall())
	s.Answers = []string{s.Image[address:min(address+wanted, 256)]}
	return s
}

// pagesOf are those that so many bytes from the address on are written into.
func pagesOf(address, bytes int) []int {
	var pages []int
	for page := range 4 {
		if bytes > 0 && address < 64*page+64 && address+bytes > 64*page {
			pages = append(pages, page)
		}
	}
	return pages
}

func TestP14ReadsForgetThePagesTheyWriteInto(t *testing.T) {
	for _, address := range []int{0, 1, 55, 56, 60, 62, 63, 64, 65, 126, 127, 128, 129, 190, 191, 192, 193, 254, 255, 256} {
		for _, bytes := range []int{0, 1, 2, 3, 63, 64, 65, 66, 127, 128, 129, 192, 193, 255, 256} {
			if address+bytes > 256 {
				continue
			}
			checkForgotten(t, reading(address, bytes, bytes), pagesOf(address, bytes)...)
			checkForgotten(t, reading(address, bytes, 256-address), pagesOf(address, bytes)...) // the answer is shorter
			checkForgotten(t, reading(address, 256, bytes), pagesOf(address, bytes)...)         // the answer is longer
		}
	}
}

func TestP14ReadsOfNoBytesForgetNothing(t *testing.T) {
	for _, address := range []int{0, 32, 56, 64, 96, 160, 224, 256} {
		checkForgotten(t, reading(address, 64, 0))
		checkForgotten(t, reading(address, 0, 256-address))
		s := reading(address, 0, 256-address)
		s.Answers = nil
		checkForgotten(t, s)
		checkForgotten(t, reading(address, 64, 257-address)) // a fault
	}
}

func TestP14OtherCallsForgetNothing(t *testing.T) {
	for _, call := range []int32{64, 214, 5, 0} {
		for _, length := range []int32{0, 1, 4, 256, 257} {
			for _, address := range []int32{0, 56, 96, 255} {
				s := probe(addi(17, 0, call), addi(11, 0, address), addi(12, 0, length), ecall())
				s.Answers = []string{"unread"}
				checkForgotten(t, s)
			}
		}
	}
	checkForgotten(t, probe(withImm(api.LW, 5, 0, 56), withImm(api.LB, 5, 0, 96), withImm(api.LHU, 5, 0, 160)))
}

// Wherever the page is written into, all its blocks are forgotten, and those of the other page stay.
func TestP14AllBlocksOfThePage(t *testing.T) {
	loop := []part{
		at(0, jal(0, 4), jal(0, 24), fence()),
		at(28, jal(0, 28)),
		at(56, fence(), jal(0, 4)),
		at(64, toAddress(api.SB, 0, 0, 16), jal(0, -68)),
	}
	s := laid(2, loop...)
	s.Fuel = 14
	checkBuilt(t, s, 0, 4, 28, 56, 64, 0, 4, 28, 56)
	loop[3] = at(64, toAddress(api.SB, 0, 0, 127), jal(0, -68))
	s = laid(2, loop...)
	s.Fuel = 14
	checkBuilt(t, s, 0, 4, 28, 56, 64, 68, 64, 68)
}

func TestP14TheBlockThatIsBeingDoneIsLeft(t *testing.T) {
	for _, store := range []api.Op{api.SB, api.SH, api.SW} {
		for before := range 9 {
			for _, address := range []int32{0, 60, 64, 124} {
				s := laid(2, at(0, after(fences(before), toAddress(store, 0, 0, address), fence(), fence(), ebreak())...))
				s.Entry = 4 // so that the first word may be written over
				if before == 0 {
					s.Entry = 0
				}
				r := run(t, s)
				if r.Outcome != api.Break || r.PC != uint32(4*before+12) {
					t.Fatalf("outcome %d at %d", r.Outcome, r.PC)
				}
				want := []uint32{s.Entry}
				behind := uint32(4*before + 4)
				if end := s.Entry + 32; address < 64 {
					if behind > end {
						want = append(want, end)
					}
					want = append(want, behind)
				} else if behind+8 >= end {
					want = append(want, end)
				}
				checkBuilt(t, s, want...)
			}
		}
	}
}

func TestP14EachStoreLeavesItsBlock(t *testing.T) {
	store := toAddress(api.SW, 0, 0, 60)
	checkBuilt(t, laid(1, at(0, store, store, fence(), store, ebreak())), 0, 4, 8, 16)
	s := laid(1, at(0, store, jal(0, -4)))
	s.Fuel = 6
	checkBuilt(t, s, 0, 4, 0, 4, 0, 4)
}

// The read's call ends its block in any case; the block behind it is made of what was read.
func TestP14ReadOverTheNextInstruction(t *testing.T) {
	list := []api.Instr{addi(17, 0, 63), addi(11, 0, 16), addi(12, 0, 4), ecall(), addi(1, 0, 1), ebreak()}
	s := laid(1, at(0, list...))
	for _, c := range []struct {
		answer string
		number uint32
	}{{"", 1}, {code(addi(1, 0, 1)), 1}, {code(addi(1, 0, 9)), 9}, {code(addi(1, 0, 9), addi(1, 0, 7)), 9}} {
		s.Answers = []string{c.answer}
		if r := run(t, s); r.Regs[1] != c.number || r.Outcome != api.Break {
			t.Errorf("after a read of %q register 1 is %d, outcome %d", c.answer, r.Regs[1], r.Outcome)
		}
		checkBuilt(t, s, 0, 16)
	}
	s.Answers = []string{"\xFF\xFF\xFF\xFF"}
	if r := run(t, s); r.Outcome != api.Illegal || r.PC != 16 {
		t.Errorf("outcome %d at %d", r.Outcome, r.PC)
	}
	checkBuilt(t, s, 0)
}

func TestP14StoreOverTheNextInstruction(t *testing.T) {
	for between := range 5 {
		to := int32(12 + 4*between)
		list := after(set(5, word(addi(1, 0, 9))), toAddress(api.SW, 0, 5, to))
		list = after(after(list, fences(between)...), addi(1, 0, 1), ebreak())
		s := laid(1, at(0, list...))
		if r := run(t, s); r.Regs[1] != 9 || r.Outcome != api.Break {
			t.Errorf("register 1 is %d, outcome %d", r.Regs[1], r.Outcome)
		}
		checkBuilt(t, s, 0, 12)
	}
	list := after(set(5, 0), toAddress(api.SW, 0, 5, 12), fence(), ebreak()) // over it with what is none
	s := laid(1, at(0, list...))
	if r := run(t, s); r.Outcome != api.Illegal || r.PC != 12 || r.Steps != 3 {
		t.Errorf("outcome %d at %d", r.Outcome, r.PC)
	}
	checkBuilt(t, s, 0)
}

// The block at 64 is in its slot when the one at 0 writes over its first instruction, or over its last.
func TestP14StoreOverABlockThatIsInItsSlot(t *testing.T) {
	for _, to := range []int32{64, 68, 72} {
		list := after(set(5, word(addi(1, 1, 9))), jal(2, 56), toAddress(api.SW, 0, 5, to), jal(2, 48), ebreak())
		s := laid(2, at(0, list...), at(64, addi(1, 1, 1), addi(1, 1, 1), addi(1, 1, 1), withImm(api.JALR, 0, 2, 0)))
		if r := run(t, s); r.Regs[1] != 3+2+9 || r.Outcome != api.Break {
			t.Errorf("register 1 is %d, outcome %d", r.Regs[1], r.Outcome)
		}
		checkBuilt(t, s, 0, 64, 12, 64, 20)
	}
}

// The run is over: what the store would have made be forgotten is neither forgotten nor found again.
func TestP14StoresThatTrap(t *testing.T) {
	for _, c := range []struct {
		store   api.Instr
		outcome api.Outcome
	}{
		{toAddress(api.SW, 0, 0, 2), api.StoreAlign}, {toAddress(api.SH, 0, 0, 61), api.StoreAlign},
		{toAddress(api.SW, 0, 0, 256), api.StoreFault}, {toAddress(api.SB, 0, 0, -1), api.StoreFault},
	} {
		s := laid(2, at(0, fence(), fence(), c.store, fence(), ebreak()))
		want := interpret(t, s)
		if want.Outcome != c.outcome || want.PC != 8 || want.Memory != s.Image {
			t.Errorf("%#v", want)
		}
		checkBuilt(t, s, 0)
		s = probe(toAddress(api.SB, 0, 0, 120), c.store)
		checkBuilt(t, s, 0, 56, 4, 96, 8, 160, 12, 224, 16)
	}
}

// The block at 64 writes into the first page each time, so that the one there is built each time, until there is no room left: then the one at 64 is built once more, too.
func TestP14ForgottenBlocksTakeTheirRoom(t *testing.T) {
	s := laid(2, at(0, fence(), jal(0, 60)), at(64, toAddress(api.SW, 0, 0, 60), jal(0, -68)))
	s.Entry, s.Arena, s.Fuel = 64, 8, 32
	checkBuilt(t, s, 64, 0, 0, 0, 0, 64, 0, 0, 0, 64, 0)
	s.Arena = 9
	checkBuilt(t, s, 64, 0, 0, 0, 0, 64, 0, 0, 0, 64, 0)
	s.Arena = 10
	checkBuilt(t, s, 64, 0, 0, 0, 0, 0, 64, 0, 0, 0)
	s.Arena = 256
	checkBuilt(t, s, 64, 0, 0, 0, 0, 0, 0, 0, 0)
}

// So does a block that was left: what it was built with counts, not what was done of it.
func TestP14LeftBlocksTakeTheirWholeRoom(t *testing.T) {
	s := laid(2, at(0, toAddress(api.SB, 0, 0, 60), fence(), fence(), jal(0, 52)), at(64, jal(0, -64)))
	s.Entry, s.Arena, s.Fuel = 64, 8, 16
	checkBuilt(t, s, 64, 0, 4, 0, 4, 64, 0, 4, 64)
	s.Arena = 15
	checkBuilt(t, s, 64, 0, 4, 0, 4, 0, 4, 64)
}
