package chains_test

import (
	"slices"
	"testing"

	"chains/api"
	"chains/chains"
)

func profile(t *testing.T, s api.Setup) []api.Block {
	t.Helper()
	blocks, err := chains.Profile(s)
	if err != api.OK {
		t.Fatalf("Profile(%#v) has the error %d", s, err)
	}
	return blocks
}

func blockAt(address uint32, length, built, entered int) api.Block {
	return api.Block{PC: address, Len: length, Built: built, Entered: entered}
}

// checkProfile also holds the blocks that were built, taken together, against Run.
func checkProfile(t *testing.T, s api.Setup, want ...api.Block) {
	t.Helper()
	got := profile(t, s)
	if !slices.Equal(got, want) {
		t.Fatalf("Profile(%#v)\n= %v, want\n  %v", s, got, want)
	}
	sum := 0
	for _, b := range got {
		sum += b.Built
	}
	if built := run(t, s).Built; sum != built {
		t.Fatalf("Profile(%#v) has %d blocks that are built, Run has %d", s, sum, built)
	}
}

// checkProfileHowever is for programs whose blocks come to the same with few slots and with many.
func checkProfileHowever(t *testing.T, s api.Setup, want ...api.Block) {
	t.Helper()
	for _, c := range caches() {
		s.Slots, s.Arena = c[0], c[1]
		checkProfile(t, s, want...)
	}
}

func TestP15Example(t *testing.T) {
	s := api.Setup{Pages: 1, Image: "\x6F\x00\x00\x00", Fuel: 5}
	checkProfileHowever(t, s, blockAt(0, 1, 1, 5))
}

// Each error by itself, then with all that are named behind it. The program itself could be run.
func TestP15Errors(t *testing.T) {
	good := laid(1, at(0, fence(), jal(0, -4)))
	checkProfileErrno(t, good, api.OK)
	pages, image, fuel, slots, arena := good, good, good, good, good
	pages.Pages, image.Base, fuel.Fuel, slots.Slots, arena.Arena = 0, 4, 2001, 65, 7
	checkProfileErrno(t, pages, api.ErrPages)
	checkProfileErrno(t, image, api.ErrImage)
	checkProfileErrno(t, fuel, api.ErrFuel)
	checkProfileErrno(t, slots, api.ErrCache)
	checkProfileErrno(t, arena, api.ErrCache)
	fuel.Slots, fuel.Arena = 0, 257
	checkProfileErrno(t, fuel, api.ErrFuel)
	fuel.Base = 4
	checkProfileErrno(t, fuel, api.ErrImage)
	fuel.Pages = 9
	fuel.Base = 1 << 20
	checkProfileErrno(t, fuel, api.ErrPages)
}

func TestP15WithoutFuel(t *testing.T) {
	s := laid(1, at(0, fence(), jal(0, -4)))
	s.Fuel = 0
	for _, entry := range []uint32{0, 1, 4, 8, 64, minusOne} {
		s.Entry = entry
		checkProfileHowever(t, s)
	}
	s.Entry, s.Fuel = 0, 1
	checkProfileHowever(t, s, blockAt(0, 2, 1, 1))
}

func TestP15AnOrdinaryLoop(t *testing.T) {
	s := api.Setup{Pages: 1, Image: countdown(), Fuel: 30}
	checkProfileHowever(t, s, blockAt(0, 4, 1, 1), blockAt(4, 3, 1, 4), blockAt(16, 1, 1, 1))
}

func TestP15AllTheFuel(t *testing.T) {
	s := laid(1, at(0, jal(0, 0)))
	s.Fuel = 2000
	checkProfile(t, s, blockAt(0, 1, 1, 2000))
	s = ring(1, 1)
	s.Fuel, s.Slots = 2000, 1
	checkProfile(t, s, blockAt(0, 1, 1000, 1000), blockAt(64, 1, 1000, 1000))
}

func TestP15NoBlockWhereTheRunEnds(t *testing.T) {
	for _, entry := range []uint32{1, 2, 3, 65, minusOne, 64, 68, least, minusOne - 3, 60, 32} {
		s := laid(1, at(0, fences(8)...))
		s.Entry = entry
		checkProfileHowever(t, s)
	}
}

func TestP15NoBlockBehindTheLast(t *testing.T) {
	for _, list := range [][]api.Instr{
		fences(3), fences(8),
		{jal(0, 60)}, {jal(0, 64)}, {jal(0, -4)}, {withImm(api.JALR, 0, 0, -4)},
		{toAddress(api.BEQ, 0, 0, 128)}, {toAddress(api.BNE, 0, 0, 128)}, {ecall()},
	} {
		checkProfileHowever(t, laid(1, at(0, list...)), blockAt(0, len(list), 1, 1))
	}
	exit := laid(1, at(0, addi(17, 0, 93), ecall(), fence()))
	checkProfileHowever(t, exit, blockAt(0, 2, 1, 1))
}

// trapping are instructions that end the run and are not done, and how many instructions a block has that begins with one and goes on as far as it may over a FENCE.
func trapping() map[api.Instr]int {
	return map[api.Instr]int{
		ebreak():                     1,
		jal(1, 2):                    1,
		withImm(api.JALR, 1, 0, 2):   1,
		toAddress(api.BEQ, 0, 0, 2):  1,
		withImm(api.LW, 1, 0, 2):     2,
		withImm(api.LB, 0, 0, -1):    2,
		toAddress(api.SH, 0, 0, 3):   2,
		toAddress(api.SW, 0, 0, 256): 2,
	}
}

// The run ends by the first instruction of a block, also of one that it was led to, or by a later one.
func TestP15BlocksInWhichTheRunEnds(t *testing.T) {
	for in, length := range trapping() {
		s := laid(1, at(0, in, fence()))
		if r := run(t, s); r.Steps != 0 {
			t.Fatalf("%+v is done", in)
		}
		checkProfileHowever(t, s, blockAt(0, length, 1, 1))
		checkProfileHowever(t, laid(1, at(0, fence(), fence(), in, fence())), blockAt(0, 2+length, 1, 1))
		checkProfileHowever(t, laid(1, at(0, jal(0, 40)), at(40, in, fence())), blockAt(0, 1, 1, 1), blockAt(40, length, 1, 1))
	}
}

// The load is beyond the memory the third time round, and in the other loop the second time.
func TestP15ATrapInABlockThatIsKept(t *testing.T) {
	s := laid(1, at(0, fence(), withImm(api.LW, 2, 1, 0), addi(1, 1, 60), fence(), jal(0, -16)))
	checkProfileHowever(t, s, blockAt(0, 5, 1, 3))
	s = laid(1, at(0, withImm(api.LW, 2, 1, 0), addi(1, 1, 64), jal(0, -8)))
	checkProfileHowever(t, s, blockAt(0, 3, 1, 2))
}

func TestP15LeftEarlyByFuel(t *testing.T) {
	s := laid(1, at(0, after(fences(4), jal(0, -16))...))
	for fuel := 1; fuel < 30; fuel++ {
		s.Fuel = fuel
		checkProfileHowever(t, s, blockAt(0, 5, 1, (fuel+4)/5))
	}
	s = laid(1, at(0, fences(16)...))
	for fuel, want := range map[int][]api.Block{
		1:  {blockAt(0, 8, 1, 1)},
		8:  {blockAt(0, 8, 1, 1)},
		9:  {blockAt(0, 8, 1, 1), blockAt(32, 8, 1, 1)},
		16: {blockAt(0, 8, 1, 1), blockAt(32, 8, 1, 1)},
	} {
		s.Fuel = fuel
		checkProfileHowever(t, s, want...)
	}
}

func TestP15LeftEarlyByAStore(t *testing.T) {
	loop := func(address int32) api.Setup {
		s := laid(2, at(0, fence(), toAddress(api.SW, 0, 0, address), fence(), jal(0, -12)))
		s.Fuel = 20
		return s
	}
	for _, own := range []int32{16, 60} {
		checkProfileHowever(t, loop(own), blockAt(0, 4, 5, 5), blockAt(8, 2, 5, 5))
	}
	for _, other := range []int32{64, 124} {
		checkProfileHowever(t, loop(other), blockAt(0, 4, 1, 5))
	}
	s := loop(60)
	s.Fuel = 2 // the store is the last that is done: no block is found behind it
	checkProfileHowever(t, s, blockAt(0, 4, 1, 1))
	s.Fuel = 3
	checkProfileHowever(t, s, blockAt(0, 4, 1, 1), blockAt(8, 2, 1, 1))
}

// Two of the reads write into the page of the loop; those behind them get nothing, and nothing is forgotten.
func TestP15LeftByARead(t *testing.T) {
	loop := func(address int32) api.Setup {
		s := laid(2, at(0, addi(17, 0, 63), addi(11, 0, address), addi(12, 0, 1), ecall(), jal(0, -16)))
		s.Fuel, s.Answers = 25, []string{"ab", "c"}
		s.Slots = 4 // the blocks at 0 and 16 share one
		checkProfile(t, s, blockAt(0, 4, 5, 5), blockAt(16, 1, 5, 5))
		s.Slots = 5
		return s
	}
	for _, own := range []int32{20, 63} {
		checkProfile(t, loop(own), blockAt(0, 4, 3, 5), blockAt(16, 1, 2, 5))
	}
	for _, other := range []int32{64, 127, 128} {
		checkProfile(t, loop(other), blockAt(0, 4, 1, 5), blockAt(16, 1, 1, 5))
	}
}

func TestP15EnteredAtItsMiddle(t *testing.T) {
	s := laid(1, at(0, addi(1, 0, 4), fence(), addi(1, 1, -1), toAddress(api.BNE, 1, 0, -4), ebreak()))
	checkProfile(t, s, blockAt(0, 4, 1, 1), blockAt(8, 2, 1, 3), blockAt(16, 1, 1, 1))
	for entry := range 8 {
		s := laid(1, at(0, after(fences(7), ebreak())...))
		s.Entry = uint32(4 * entry)
		checkProfileHowever(t, s, blockAt(s.Entry, 8-entry, 1, 1))
	}
}

// rewriting goes to the block at 64, writes the word to an address there, and goes to it once more. What it has at first is four instructions, then FENCEs and another way back behind them.
func rewriting(newWord uint32, to int32) api.Setup {
	back := withImm(api.JALR, 0, 2, 0)
	list := after(set(5, newWord), jal(2, 56), toAddress(api.SW, 0, 5, to), jal(2, 48), ebreak())
	return laid(2, at(0, list...), at(64, fence(), fence(), fence(), back, fence(), fence(), back))
}

// The length is that of the block that was built last, whether it has become less, more or the same.
func TestP15BuiltAgainWithAnotherLength(t *testing.T) {
	back := word(withImm(api.JALR, 0, 2, 0))
	for _, c := range []struct {
		word   uint32
		to     int32
		length int
	}{
		{back, 64, 1}, {back, 68, 2}, {back, 72, 3}, {back, 76, 4}, {back, 80, 4}, {back, 124, 4},
		{word(fence()), 76, 7}, {word(fence()), 72, 4},
	} {
		checkProfile(t, rewriting(c.word, c.to),
			blockAt(0, 3, 1, 1), blockAt(12, 2, 1, 1), blockAt(20, 1, 1, 1), blockAt(64, c.length, 2, 2))
	}
	for to, length := range map[int32]int{68: 1, 72: 2, 76: 3} { // a word that is none ends the block, and the run behind it
		checkProfile(t, rewriting(0, to), blockAt(0, 3, 1, 1), blockAt(12, 2, 1, 1), blockAt(64, length, 2, 2))
	}
	checkProfile(t, rewriting(0, 64), blockAt(0, 3, 1, 1), blockAt(12, 2, 1, 1), blockAt(64, 4, 1, 1))
}

// The reads make the block at 64 as long as each of the numbers in turn: the last one counts, not the greatest, the least or the first.
func TestP15BuiltAgainAndAgain(t *testing.T) {
	for _, lengths := range [][]int{{3}, {8, 2}, {2, 8}, {4, 8, 1, 6}, {5, 1, 7, 3}, {3, 3, 3}} {
		s := laid(2, at(0, addi(17, 0, 63), addi(11, 0, 64), addi(12, 0, 32), ecall(), jal(2, 48), jal(0, -8)))
		s.Fuel = 4
		for _, n := range lengths {
			s.Answers = append(s.Answers, code(after(fences(n-1), withImm(api.JALR, 0, 2, -8))...))
			s.Fuel += 2 + n // the call, the way there, and the block, behind which the next call follows
		}
		s.Fuel--
		rounds := len(lengths)
		blocks := []api.Block{blockAt(0, 4, 1, 1), blockAt(16, 1, 1, rounds), blockAt(64, lengths[rounds-1], rounds, rounds)}
		if rounds > 1 {
			blocks = slices.Insert(blocks, 1, blockAt(12, 1, 1, rounds-1))
		}
		checkProfile(t, s, blocks...)
	}
}

// What stands at 64 in the end is another block, but none was built of it: the one that was forgotten is told of.
func TestP15ForgottenAndNeverBuiltAgain(t *testing.T) {
	list := after(set(5, word(ebreak())), jal(2, 56), toAddress(api.SW, 0, 5, 68), ebreak())
	s := laid(2, at(0, list...), at(64, fence(), fence(), fence(), withImm(api.JALR, 0, 2, 0)))
	checkProfileHowever(t, s, blockAt(0, 3, 1, 1), blockAt(12, 2, 1, 1), blockAt(64, 4, 1, 1))
}

// Each of the blocks makes all be cleared, or drives out the one ahead of it.
func TestP15ClearedAndNeverBuiltAgain(t *testing.T) {
	s := laid(4, at(0, fences(64)...))
	s.Fuel = 100
	var want []api.Block
	for address := uint32(0); address < 256; address += 32 {
		want = append(want, blockAt(address, 8, 1, 1))
	}
	for _, c := range [][2]int{{64, 8}, {1, 8}, {1, 256}, {64, 63}, {64, 256}, {8, 20}} {
		s.Slots, s.Arena = c[0], c[1]
		checkProfile(t, s, want...)
	}
}

func TestP15ClearedAndBuiltAgain(t *testing.T) {
	s := ring(4, 4, 1)
	s.Fuel, s.Arena = 27, 8
	checkProfile(t, s, blockAt(0, 4, 3, 3), blockAt(64, 4, 3, 3), blockAt(128, 1, 3, 3))
	s.Arena = 9
	checkProfile(t, s, blockAt(0, 4, 1, 3), blockAt(64, 4, 1, 3), blockAt(128, 1, 1, 3))
	s.Fuel = 22 // one of the block at 64
	checkProfile(t, s, blockAt(0, 4, 1, 3), blockAt(64, 4, 1, 2), blockAt(128, 1, 1, 2))
}

func TestP15TwoInOneSlot(t *testing.T) {
	s := twoInOneSlot()
	s.Fuel = 30
	checkProfile(t, s, blockAt(0, 1, 10, 10), blockAt(4, 1, 1, 10), blockAt(8, 1, 10, 10))
	s.Slots = 3
	checkProfile(t, s, blockAt(0, 1, 1, 10), blockAt(4, 1, 1, 10), blockAt(8, 1, 1, 10))
	s.Slots = 1
	checkProfile(t, s, blockAt(0, 1, 10, 10), blockAt(4, 1, 10, 10), blockAt(8, 1, 10, 10))
	s.Slots, s.Fuel = 2, 31
	checkProfile(t, s, blockAt(0, 1, 10, 10), blockAt(4, 1, 1, 11), blockAt(8, 1, 10, 10))
}

// A jump at each word leads so many words on, so that the run comes to all of them, twice, in an order that is not that of the addresses. Words half the memory apart share a slot.
func TestP15InTheOrderOfTheAddresses(t *testing.T) {
	const words = 128
	var want []api.Block
	for n := range uint32(words) {
		want = append(want, blockAt(4*n, 1, 2, 2))
	}
	for _, stride := range []int{1, 37, 63, 127} {
		var list []api.Instr
		for here := range words {
			list = append(list, jal(0, int32(4*((here+stride)%words-here))))
		}
		s := laid(8, at(0, list...))
		s.Entry, s.Fuel = 4*77, 2*words
		checkProfile(t, s, want...)
	}
}

func TestP2WhatProfileAnswersIsTheCallers(t *testing.T) {
	s := talk()
	s.Slots, s.Arena = 4, 16
	first := profile(t, s)
	kept := slices.Clone(first)
	if len(kept) == 0 {
		t.Fatal("no block is told of")
	}
	other := profile(t, s)
	for i := range other {
		other[i] = blockAt(4, 5, 6, 7)
	}
	_ = append(other[:0], blockAt(8, 9, 10, 11))
	if !slices.Equal(first, kept) || !slices.Equal(s.Answers, []string{"ab", "cd"}) {
		t.Errorf("written into: %v, want %v, and %q", first, kept, s.Answers)
	}
	checkProfile(t, s, kept...)
}

// Between the two passes other programs are run in all ways.
func TestP2ProfileAnswersAgain(t *testing.T) {
	var d dice
	var setups []api.Setup
	var first [][]api.Block
	for range 500 {
		s := d.program()
		s.Slots, s.Arena = 1+d.throw(64), 8+d.throw(249)
		setups = append(setups, s)
		first = append(first, profile(t, s))
	}
	for i, s := range slices.Backward(setups) {
		checkProfile(t, s, first[i]...)
		interpret(t, s)
	}
}
