package chains_test

import (
	"reflect"
	"slices"
	"testing"

	"chains/api"
)

// part is some instructions and where they stand.
type part struct {
	address int
	list    []api.Instr
}

func at(address int, list ...api.Instr) part { return part{address, list} }

func fences(n int) []api.Instr { return slices.Repeat([]api.Instr{fence()}, n) }

// laid has the parts in so many pages, with as many slots and as great an arena as there may be. What lies between the parts is no instruction.
func laid(pages int, parts ...part) api.Setup {
	memory := make([]byte, 64*pages)
	for _, p := range parts {
		copy(memory[p.address:], code(p.list...))
	}
	return api.Setup{Pages: pages, Image: string(memory), Fuel: 60, Slots: 64, Arena: 256}
}

// builtAt answers the addresses of the blocks that are built, in their order. A block is built ahead of the instruction for which one more of fuel builds one more.
func builtAt(t *testing.T, s api.Setup) []uint32 {
	t.Helper()
	var addresses []uint32
	for fuel := range s.Fuel + 1 {
		s.Fuel = fuel
		built := run(t, s).Built
		if built == len(addresses) {
			continue
		}
		if fuel == 0 || built != len(addresses)+1 {
			t.Fatalf("with the fuel %d %d blocks are built, with one less %d", fuel, built, len(addresses))
		}
		s.Fuel = fuel - 1
		addresses = append(addresses, interpret(t, s).PC)
	}
	return addresses
}

func checkBuilt(t *testing.T, s api.Setup, want ...uint32) {
	t.Helper()
	if got := builtAt(t, s); !slices.Equal(got, want) {
		t.Errorf("%d slots, arena %d: built at %d, want %d", s.Slots, s.Arena, got, want)
	}
	checkBuiltOften(t, s, want)
}

// checkBuiltOften holds Profile against the addresses of the blocks that are built, whatever their order.
func checkBuiltOften(t *testing.T, s api.Setup, built []uint32) {
	t.Helper()
	var got []uint32
	for _, b := range profile(t, s) {
		got = append(got, slices.Repeat([]uint32{b.PC}, b.Built)...)
	}
	if want := slices.Sorted(slices.Values(built)); !slices.Equal(got, want) {
		t.Errorf("%d slots, arena %d: Profile tells of blocks built at %d, want %d", s.Slots, s.Arena, got, want)
	}
}

func TestP12Example(t *testing.T) {
	s := api.Setup{Pages: 1, Image: "\x6F\x00\x00\x00", Fuel: 5, Slots: 1, Arena: 8}
	if r := run(t, s); r.Built != 1 || r.Steps != 5 || r.Outcome != api.OutOfFuel {
		t.Errorf("the run of the examples: %#v", r)
	}
	checkBuilt(t, s, 0)
}

// leadingOn are the instructions that end a block, such that each leads from 8 on to 12: by a jump, or by none.
func leadingOn() []api.Instr {
	list := []api.Instr{jal(0, 4), jal(1, 4), withImm(api.JALR, 0, 0, 12), ecall()}
	for op := api.BEQ; op <= api.BGEU; op++ {
		list = append(list, toAddress(op, 0, 0, 4))
		if !taken(op, 0, 0) {
			list = append(list, toAddress(op, 0, 0, 64))
		}
	}
	return list
}

func TestP12BlocksEndAtBranchesJumpsAndCalls(t *testing.T) {
	for _, in := range leadingOn() {
		s := laid(1, at(0, fence(), fence(), in, fence(), fence(), in))
		checkBuilt(t, s, 0, 12)
		s.Entry = 4
		checkBuilt(t, s, 4, 12)
		s.Entry = 8
		checkBuilt(t, s, 8, 12)
	}
}

// All other instructions do not end it: six of each, with two that do nothing round them, are one block. They lie in the second page, for some of them write into the first.
func TestP12BlocksGoOnBehindAllOthers(t *testing.T) {
	for op := api.LUI; op <= api.FENCE; op++ {
		if op >= api.JAL && op <= api.BGEU {
			continue
		}
		list := append([]api.Instr{fence()}, slices.Repeat([]api.Instr{{Op: op}}, 6)...)
		s := laid(2, at(64, after(list, fence(), fence(), ebreak())...))
		s.Entry = 64
		checkBuilt(t, s, 64, 96)
	}
}

func TestP12BlocksHaveEightInstructionsAtMost(t *testing.T) {
	for n, want := range map[int][]uint32{
		1: {0}, 6: {0}, 7: {0}, 8: {0, 32}, 9: {0, 32}, 14: {0, 32}, 15: {0, 32},
	} {
		checkBuilt(t, laid(1, at(0, after(fences(n), ebreak())...)), want...)
		checkBuilt(t, laid(1, at(0, after(fences(n), jal(0, int32(-4*n)))...)), want...)
	}
	s := laid(2, at(4, after(fences(20), ebreak())...))
	s.Entry = 4
	checkBuilt(t, s, 4, 36, 64)
}

func TestP12BlocksEndWithTheirPage(t *testing.T) {
	s := laid(4, at(0, fences(64)...))
	s.Fuel = 100
	for entry, want := range map[uint32][]uint32{
		0:   {0, 32, 64, 96, 128, 160, 192, 224},
		4:   {4, 36, 64, 96, 128, 160, 192, 224},
		28:  {28, 60, 64, 96, 128, 160, 192, 224},
		60:  {60, 64, 96, 128, 160, 192, 224},
		124: {124, 128, 160, 192, 224},
		180: {180, 192, 224},
		228: {228},
		252: {252},
	} {
		s.Entry = entry
		checkBuilt(t, s, want...)
		if r := run(t, s); r.Outcome != api.FetchFault || r.PC != 256 {
			t.Errorf("from %d: outcome %d at %d", entry, r.Outcome, r.PC)
		}
	}
}

// checkLength measures a block at the base, though its end is never come to: its third instruction writes over what stands behind it a jump, to a block at 0 that leads back to the jump. As long as all three have room the jump is built once. By one instruction too many all is cleared, and the jump is built again.
func checkLength(t *testing.T, pages, base int, behind string, want int) {
	t.Helper()
	to := base + 12
	list := after(set(5, word(jal(0, int32(-to)))), toAddress(api.SW, 0, 5, int32(to)))
	for _, length := range []int{10 - want, 11 - want} {
		s := laid(pages, at(0, after(fences(length-1), jal(0, int32(to-4*length+4)))...), at(base, list...))
		s.Image = s.Image[:to] + behind + s.Image[to+len(behind):]
		s.Entry = uint32(base)
		s.Arena = 11
		addresses := []uint32{uint32(base), uint32(to), 0}
		if want+1+length > s.Arena {
			addresses = append(addresses, uint32(to))
		}
		checkBuilt(t, s, addresses...)
	}
}

func TestP12HowManyInstructionsABlockHas(t *testing.T) {
	ends := append(leadingOn(), ebreak())
	for _, in := range ends {
		for n := range 5 {
			checkLength(t, 2, 64, code(after(fences(n), in, fence(), fence())...), 4+n)
		}
		checkLength(t, 2, 64, code(after(fences(5), in)...), 8)
	}
	for _, none := range []string{"\x00\x00\x00\x00", "\xFF\xFF\xFF\xFF", bytesOf(0x40001013)} {
		for n := range 6 {
			checkLength(t, 2, 64, code(fences(n)...)+none+code(fences(2)...), 3+n)
		}
	}
	for n := 5; n < 9; n++ {
		checkLength(t, 2, 64, code(fences(n)...), 8)
	}
}

// The first page here is also all the memory: what ends with the page ends with the memory.
func TestP12HowManyInstructionsABlockHasAtAPagesEnd(t *testing.T) {
	for _, pages := range []int{1, 2, 3} {
		for n := 1; n < 4; n++ {
			base := 64 - 12 - 4*n
			checkLength(t, pages, base, code(fences(n)...), 3+n)
			checkLength(t, pages, base, code(after(fences(n-1), ebreak())...), 3+n)
			if pages > 1 {
				checkLength(t, pages, base, code(fences(n+4)...), 3+n)
			}
		}
	}
}

// Two blocks lead to each other. If they share a slot, each is built whenever it is come to.
func TestP12Slots(t *testing.T) {
	for _, first := range []int{0, 4, 60, 100} {
		for second := 0; second < 512; second += 12 {
			if second == first {
				continue
			}
			s := laid(8, at(first, jal(0, int32(second-first))), at(second, jal(0, int32(first-second))))
			s.Entry, s.Fuel = uint32(first), 20
			for s.Slots = 1; s.Slots <= 64; s.Slots++ {
				want := 2
				if first/4%s.Slots == second/4%s.Slots {
					want = 20
				}
				if got := run(t, s).Built; got != want {
					t.Fatalf("blocks at %d and %d, %d slots: %d are built, want %d", first, second, s.Slots, got, want)
				}
			}
		}
	}
}

// ring has a block of each length, each in a page of its own, each of which leads to the next, and the last to the first.
func ring(lengths ...int) api.Setup {
	var parts []part
	for i, length := range lengths {
		last := 64*i + 4*length - 4
		to := 64 * ((i + 1) % len(lengths))
		parts = append(parts, at(64*i, after(fences(length-1), jal(0, int32(to-last)))...))
	}
	return laid(len(lengths), parts...)
}

func TestP12OneSlotForAll(t *testing.T) {
	s := ring(1, 2, 1)
	s.Slots, s.Fuel = 1, 12
	checkBuilt(t, s, 0, 64, 128, 0, 64, 128, 0, 64, 128)
	s.Slots = 16 // all pages begin in the same slot
	checkBuilt(t, s, 0, 64, 128, 0, 64, 128, 0, 64, 128)
	s.Slots = 32 // the first and the third do
	checkBuilt(t, s, 0, 64, 128, 0, 128, 0, 128)
	s.Slots = 64
	checkBuilt(t, s, 0, 64, 128)
}

func TestP12ArenaThatIsJustFull(t *testing.T) {
	for _, lengths := range [][]int{{1, 7}, {4, 4}, {8, 1}, {8, 8}, {3, 3, 3}, {1, 2, 3, 4}, {8, 7, 6, 5}, {8, 8, 8, 8}} {
		s := ring(lengths...)
		full := 0
		for _, n := range lengths {
			full += n
		}
		s.Fuel = 5 * full
		if s.Arena = full; run(t, s).Built != len(lengths) {
			t.Errorf("blocks of %d, arena %d: %d are built", lengths, s.Arena, run(t, s).Built)
		}
		if s.Arena = full - 1; s.Arena >= 8 && run(t, s).Built <= len(lengths) {
			t.Errorf("blocks of %d, arena %d: %d are built", lengths, s.Arena, run(t, s).Built)
		}
	}
}

// Clearing empties all slots, whichever the new block takes, and begins to count anew with the new block.
func TestP12ArenaIsCleared(t *testing.T) {
	s := ring(4, 4, 1)
	s.Fuel, s.Arena = 27, 8
	checkBuilt(t, s, 0, 64, 128, 0, 64, 128, 0, 64, 128)
	s.Arena = 9
	checkBuilt(t, s, 0, 64, 128)
	s = laid(2, // the block at 64 is gone to once, from the loop of the two others
		at(0, addi(1, 1, 1), addi(2, 0, 3), toAddress(api.BEQ, 1, 2, 56), jal(0, -12)), // 3 and 1
		at(64, fence(), fence(), fence(), jal(0, -76)),                                 // 4
	)
	s.Fuel, s.Arena = 40, 8
	checkBuilt(t, s, 0, 12, 64)
	s.Image = s.Image[:64] + code(after(fences(4), jal(0, -80))...) + s.Image[84:]
	checkBuilt(t, s, 0, 12, 64, 0, 12, 0) // at 64 all is cleared, and at 12 again
}

// twoInOneSlot goes round through three blocks of one instruction, at 4, 0 and 8, of which the last two drive each other out.
func twoInOneSlot() api.Setup {
	s := laid(1, at(0, jal(0, 8), jal(0, -4), jal(0, -4)))
	s.Entry, s.Slots = 4, 2
	return s
}

// What was driven out of its slot takes its room until all is cleared.
func TestP12DrivenOutBlocksTakeTheirRoom(t *testing.T) {
	s := twoInOneSlot()
	s.Arena, s.Fuel = 8, 30
	checkBuilt(t, s,
		4, 0, 8, 0, 8, 0, 8, 0,
		8, 4, 0, 8, 0, 8, 0, 8, // with this line's first all is cleared
		0, 8, 4, 0, 8, 0, 8, // and with this one's
	)
}

func TestP12ArenasOfAllSizes(t *testing.T) {
	s := twoInOneSlot()
	for arena := 8; arena <= 256; arena++ {
		rounds := (arena + 1) / 2
		s.Arena, s.Fuel = arena, 3*rounds
		if got := run(t, s).Built; got != 2*rounds+1 {
			t.Errorf("arena %d, %d rounds: %d blocks are built, want %d", arena, rounds, got, 2*rounds+1)
		}
		s.Fuel++ // the block at 4 is come to, which was cleared
		if got := run(t, s).Built; got != 2*rounds+2 {
			t.Errorf("arena %d, %d rounds and one: %d blocks are built, want %d", arena, rounds, got, 2*rounds+2)
		}
	}
}

func TestP13NoBlockWhereTheRunEnds(t *testing.T) {
	for _, c := range []struct {
		entry   uint32
		outcome api.Outcome
	}{
		{1, api.FetchAlign}, {2, api.FetchAlign}, {3, api.FetchAlign}, {65, api.FetchAlign}, {minusOne, api.FetchAlign},
		{64, api.FetchFault}, {68, api.FetchFault}, {least, api.FetchFault}, {minusOne - 3, api.FetchFault},
		{60, api.Illegal}, {32, api.Illegal},
	} {
		s := laid(1, at(0, fences(8)...))
		s.Entry = c.entry
		if r := run(t, s); r.Built != 0 || r.Outcome != c.outcome || r.PC != c.entry {
			t.Errorf("at %d: %d blocks are built, outcome %d at %d", c.entry, r.Built, r.Outcome, r.PC)
		}
		checkBuilt(t, s)
	}
}

func TestP13NoBlockBehindTheLast(t *testing.T) {
	for _, c := range []struct {
		list    []api.Instr
		outcome api.Outcome
		pc      uint32
	}{
		{fences(3), api.Illegal, 12},
		{fences(8), api.Illegal, 32},
		{[]api.Instr{jal(0, 60)}, api.Illegal, 60},
		{[]api.Instr{jal(0, 64)}, api.FetchFault, 64},
		{[]api.Instr{jal(0, -4)}, api.FetchFault, minusOne - 3},
		{[]api.Instr{withImm(api.JALR, 0, 0, -4)}, api.FetchFault, minusOne - 3},
		{[]api.Instr{toAddress(api.BEQ, 0, 0, 128)}, api.FetchFault, 128},
		{[]api.Instr{toAddress(api.BNE, 0, 0, 128)}, api.Illegal, 4},
		{[]api.Instr{ecall()}, api.Illegal, 4},
	} {
		s := laid(1, at(0, c.list...))
		if r := run(t, s); r.Outcome != c.outcome || r.PC != c.pc {
			t.Errorf("outcome %d at %d, want %d at %d", r.Outcome, r.PC, c.outcome, c.pc)
		}
		checkBuilt(t, s, 0)
	}
}

func TestP13NoBlockWithoutFuel(t *testing.T) {
	s := laid(2, at(0, after(fences(8), jal(0, 32))...), at(64, fence(), ecall(), toAddress(api.BNE, 0, 0, 8), fence()))
	for fuel, want := range map[int]int{0: 0, 1: 1, 7: 1, 8: 1, 9: 2, 10: 3, 11: 3, 12: 4, 13: 5, 14: 5} {
		s.Fuel = fuel
		if r := run(t, s); r.Built != want {
			t.Errorf("with the fuel %d %d blocks are built, want %d", fuel, r.Built, want)
		}
	}
	s.Fuel = 60
	checkBuilt(t, s, 0, 32, 64, 72, 76)
}

// Where an instruction stands that ends the run, its block was found.
func TestP13ABlockWhereAnInstructionEndsTheRun(t *testing.T) {
	for _, c := range []struct {
		in      api.Instr
		outcome api.Outcome
	}{
		{ebreak(), api.Break},
		{withImm(api.LW, 1, 0, 2), api.LoadAlign}, {withImm(api.LW, 1, 0, 256), api.LoadFault}, {withImm(api.LB, 0, 0, -1), api.LoadFault},
		{toAddress(api.SW, 0, 0, 2), api.StoreAlign}, {toAddress(api.SW, 0, 0, 256), api.StoreFault}, {toAddress(api.SB, 0, 0, -1), api.StoreFault},
		{jal(1, 2), api.FetchAlign}, {withImm(api.JALR, 1, 0, 2), api.FetchAlign}, {toAddress(api.BEQ, 0, 0, 2), api.FetchAlign},
	} {
		s := laid(1, at(0, c.in, fence()))
		if r := run(t, s); r.Outcome != c.outcome || r.Steps != 0 || r.PC != 0 {
			t.Errorf("outcome %d at %d", r.Outcome, r.PC)
		}
		checkBuilt(t, s, 0)
		checkBuilt(t, laid(1, at(0, fence(), fence(), c.in)), 0)
		checkBuilt(t, laid(1, at(0, after(fences(8), c.in)...)), 0, 32)
		checkBuilt(t, laid(1, at(0, jal(0, 40)), at(40, c.in)), 0, 40)
		checkBuilt(t, laid(1, at(0, toAddress(api.BNE, 0, 0, 40), c.in)), 0, 4)
		checkBuilt(t, laid(1, at(0, ecall(), c.in)), 0, 4)
	}
}

// Exit ends the run behind an instruction that stands there.
func TestP13NoBlockBehindAnExit(t *testing.T) {
	s := laid(1, at(0, addi(17, 0, 93), ecall(), fence()))
	if r := run(t, s); r.Outcome != api.Exited || r.Steps != 2 || r.PC != 4 {
		t.Errorf("outcome %d at %d after %d steps", r.Outcome, r.PC, r.Steps)
	}
	checkBuilt(t, s, 0)
}

// A branch ends its block, taken or not, and behind it a block is found where it leads on.
func TestP13BehindABranch(t *testing.T) {
	list := []api.Instr{addi(1, 0, 2), addi(1, 1, -1), toAddress(api.BNE, 1, 0, -4), fence(), ebreak()}
	checkBuilt(t, laid(1, at(0, list...)), 0, 4, 12)
	checkBuilt(t, laid(1, at(0, toAddress(api.BEQ, 0, 0, 12), fence(), fence(), fence(), ebreak())), 0, 12)
	checkBuilt(t, laid(1, at(0, toAddress(api.BNE, 0, 0, 12), fence(), fence(), fence(), ebreak())), 0, 4)
}

func TestP2RunAnswersAgain(t *testing.T) {
	var d dice
	var setups []api.Setup
	var first []api.Report
	for range 500 {
		s := d.program()
		s.Slots, s.Arena = 1+d.throw(64), 8+d.throw(249)
		setups = append(setups, s)
		first = append(first, run(t, s))
	}
	for i, s := range slices.Backward(setups) {
		if again := run(t, s); !reflect.DeepEqual(again, first[i]) {
			t.Fatalf("Run(%#v) = %#v, then %#v", s, first[i], again)
		}
	}
}

// Who writes into what came out changes neither what was handed in nor another run.
func TestP2WhatRunAnswersIsTheCallers(t *testing.T) {
	s := talk()
	s.Slots, s.Arena = 4, 16
	want := run(t, s)
	kept := slices.Clone(want.Events)
	other := run(t, s)
	for i := range other.Events {
		other.Events[i] = api.Event{Call: 1, Result: 2, Data: "mine"}
	}
	_ = append(other.Events[:1], api.Event{Data: "mine"})
	if !slices.Equal(want.Events, kept) || !slices.Equal(s.Answers, []string{"ab", "cd"}) {
		t.Errorf("written into: %#v, %q", want.Events, s.Answers)
	}
	if again := run(t, s); !reflect.DeepEqual(again, want) {
		t.Errorf("%#v, then %#v", want, again)
	}
}
