package chains_test

import (
	"reflect"
	"slices"
	"testing"

	"chains/api"
	"chains/chains"
)

// countdown adds 5, 4, 3, 2, 1 in 16 instructions, and stops at an EBREAK.
func countdown() string {
	return code(
		addi(1, 0, 5),
		api.Instr{Op: api.ADD, Rd: 10, Rs1: 10, Rs2: 1},
		addi(1, 1, -1),
		toAddress(api.BNE, 1, 0, -8),
		ebreak(),
	)
}

func TestP6P9FuelThatIsJustEnough(t *testing.T) {
	for _, pages := range []int{1, 8} {
		for fuel := range 30 {
			r := interpret(t, api.Setup{Pages: pages, Image: countdown(), Fuel: fuel})
			outcome, steps := api.OutOfFuel, fuel
			if fuel > 16 {
				outcome, steps = api.Break, 16
			}
			if r.Outcome != outcome || r.Steps != steps || r.Built != 0 {
				t.Errorf("fuel %d: outcome %d, %d steps, %d built, want %d, %d, 0", fuel, r.Outcome, r.Steps, r.Built, outcome, steps)
			}
			if fuel >= 16 && (r.PC != 16 || r.Regs[10] != 15 || r.Regs[1] != 0) {
				t.Errorf("fuel %d: pc %d, registers %v", fuel, r.PC, r.Regs)
			}
		}
	}
}

func TestP6P9AllTheFuel(t *testing.T) {
	r := interpret(t, api.Setup{Pages: 1, Image: code(addi(1, 1, 1), jal(0, -4)), Fuel: api.MaxFuel})
	if r.Outcome != api.OutOfFuel || r.Steps != 2000 || r.Regs[1] != 1000 || r.PC != 0 || r.Built != 0 {
		t.Errorf("%#v", r)
	}
}

// Where the fuel ends, the run is over before it is asked what stands at the pc.
func TestP6FuelEndsAheadOfATrap(t *testing.T) {
	for _, c := range []struct {
		first   api.Instr
		pc      uint32
		outcome api.Outcome
	}{
		{fence(), 4, api.Illegal},
		{jal(0, 64), 64, api.FetchFault},
		{jal(0, -4), minusOne - 3, api.FetchFault},
		{jal(0, 4), 4, api.Illegal},
	} {
		s := api.Setup{Pages: 1, Image: code(c.first)}
		checkNext(t, s, 0, jumped(c.pc))
		checkNext(t, s, 1, trapped(c.outcome))
	}
}

// The program lies over a page's end, which is none to a run one by one.
func TestP6GoesOnOverPages(t *testing.T) {
	s := api.Setup{Pages: 2, Image: code(fence(), addi(1, 0, 9), ebreak()), Base: 60, Entry: 60}
	checkNext(t, s, 0, done)
	checkNext(t, s, 1, sets(1, 9), done)
	checkNext(t, s, 2, trapped(api.Break))
}

func TestP6ProgramsWriteOverThemselves(t *testing.T) {
	addNine := word(addi(5, 5, 9))
	list := after(set(1, addNine),
		toAddress(api.SW, 0, 1, 12), // over the word behind it
		ebreak(),
		addi(5, 5, 1),
		toAddress(api.SW, 0, 1, 16), // over the word ahead of it
		jal(0, -8),
	)
	r := interpret(t, api.Setup{Pages: 1, Image: code(list...), Fuel: 9})
	if r.Outcome != api.OutOfFuel || r.Regs[5] != 9+1+9 || r.PC != 24 || r.Steps != 9 {
		t.Errorf("outcome %d, register 5 is %d, pc %d, %d steps", r.Outcome, r.Regs[5], r.PC, r.Steps)
	}
	list = after(set(1, 0x7F), toAddress(api.SB, 0, 1, 12), fence())
	checkNext(t, api.Setup{Pages: 1, Image: code(list...)}, 3, trapped(api.Illegal))
}

func TestP6P7Fetch(t *testing.T) {
	all := func(pages int) string {
		var words []uint32
		for range pages * 16 {
			words = append(words, 0x13)
		}
		return bytesOf(words...)
	}
	for _, pages := range []int{1, 2, 8} {
		size := uint32(pages * 64)
		for _, pc := range []uint32{0, 4, size - 8, size - 4} {
			checkNext(t, api.Setup{Pages: pages, Image: all(pages), Entry: pc}, 0, done)
		}
		for _, pc := range []uint32{size, size + 4, size + 64, least, minusOne - 7, minusOne - 3} {
			checkNext(t, api.Setup{Pages: pages, Image: all(pages), Entry: pc}, 0, trapped(api.FetchFault))
		}
		for _, pc := range []uint32{1, 2, 3, 5, 6, 7, size - 3, size - 2, size - 1, size + 1, size + 2, size + 3, least + 2, minusOne - 2, minusOne - 1, minusOne} {
			checkNext(t, api.Setup{Pages: pages, Image: all(pages), Entry: pc}, 0, trapped(api.FetchAlign))
		}
		checkNext(t, api.Setup{Pages: pages, Image: all(pages), Entry: size - 4}, 1, trapped(api.FetchFault))
	}
}

func TestP6P7Illegal(t *testing.T) {
	for _, w := range []uint32{0, minusOne, 0x40001013, 0x00200073, 0x00002063, 0x0000200F} {
		checkNext(t, api.Setup{Pages: 1, Image: bytesOf(w)}, 0, trapped(api.Illegal))
		checkNext(t, api.Setup{Pages: 1, Image: bytesOf(0x13, w)}, 1, trapped(api.Illegal))
		checkNext(t, api.Setup{Pages: 1, Image: bytesOf(w), Base: 60, Entry: 60}, 0, trapped(api.Illegal))
	}
}

func TestP7Break(t *testing.T) {
	checkLast(t, []api.Instr{ebreak()}, trapped(api.Break))
	checkLast(t, after(set(10, 12345), ebreak()), trapped(api.Break))
}

// No register changes: the ones that JAL and JALR would set are not 0 ahead of them.
func TestP7JumpsThatLeadAstray(t *testing.T) {
	for _, imm := range []int32{2, -2, 6, 50, 1<<20 - 2, -1<<20 + 2} {
		checkLast(t, after(set(1, 99), jal(1, imm)), trapped(api.FetchAlign))
		checkLast(t, after(set(1, 99), jal(0, imm)), trapped(api.FetchAlign))
	}
	for _, to := range []uint32{2, 3, 6, 7, 66, 1002, least + 2, minusOne - 1, minusOne} {
		for _, imm := range []int32{0, 1, -1, 4, 2047, -2048} {
			given := after(set(1, to-uint32(imm)), addi(5, 0, 99))
			for _, rd := range []int{0, 1, 5} {
				checkLast(t, after(given, withImm(api.JALR, rd, 1, imm)), trapped(api.FetchAlign))
			}
		}
	}
}

func TestP7BranchesThatLeadAstray(t *testing.T) {
	edges := []uint32{0, 5, least, minusOne}
	for op := api.BEQ; op <= api.BGEU; op++ {
		for _, a := range edges {
			for _, b := range edges {
				given := after(set(1, a), set(2, b)...)
				for _, imm := range []int32{2, -2, 6, -18, 4094, -4094} {
					end := change(done)
					if taken(op, a, b) {
						end = trapped(api.FetchAlign)
					}
					checkLast(t, after(given, toAddress(op, 1, 2, imm)), end)
				}
			}
		}
	}
}

// A load into register 0 is asked for its address all the same.
func TestP7LoadsIntoRegisterZero(t *testing.T) {
	checkLast(t, []api.Instr{withImm(api.LW, 0, 0, 1)}, trapped(api.LoadAlign))
	checkLast(t, []api.Instr{withImm(api.LW, 0, 0, 128)}, trapped(api.LoadFault))
	checkLast(t, []api.Instr{withImm(api.LB, 0, 0, -1)}, trapped(api.LoadFault))
}

// Fuel does not run while the machine stands: more of it changes nothing.
func TestP7P9TrapsStay(t *testing.T) {
	s := api.Setup{Pages: 1, Image: code(addi(1, 0, 1), withImm(api.LW, 1, 1, 0), ebreak()), Fuel: 2}
	want := interpret(t, s)
	if want.Outcome != api.LoadAlign || want.Steps != 1 || want.PC != 4 || want.Built != 0 {
		t.Fatalf("%#v", want)
	}
	for _, fuel := range []int{3, 100, 2000} {
		s.Fuel = fuel
		if got := interpret(t, s); !reflect.DeepEqual(got, want) {
			t.Errorf("fuel %d: %#v, want %#v", fuel, got, want)
		}
	}
}

func TestP10TheWholeReport(t *testing.T) {
	list := after(set(1, 0xABCD1234), toAddress(api.SW, 0, 1, 124), toAddress(api.SH, 0, 1, 66), jal(31, 40))
	s := api.Setup{Pages: 2, Image: code(list...) + "tail", Base: 8, Entry: 8, Fuel: 9}
	want := untouched(s)
	want.Outcome, want.PC, want.Steps = api.Illegal, 64, 5
	want.Regs[1], want.Regs[31] = 0xABCD1234, 28
	writes(124, "\x34\x12\xCD\xAB")(&want)
	writes(66, "\x34\x12")(&want)
	if got := interpret(t, s); !reflect.DeepEqual(got, want) {
		t.Errorf("got  %#v\nwant %#v", got, want)
	}
	if want.Break != 8+20+4 || len(want.Memory) != 128 {
		t.Errorf("break %d, %d bytes", want.Break, len(want.Memory))
	}
}

// someSetups run words of all kinds, each with the registers that those ahead of it have left.
func someSetups() []api.Setup {
	var all []api.Setup
	words := slices.DeleteFunc(someWords(), func(w uint32) bool {
		_, ok := chains.Decode(w)
		return !ok
	})
	for chunk := range slices.Chunk(words, 64) {
		pages := 1 + len(all)%8
		for first := 0; first < len(chunk); first += 3 {
			image := bytesOf(chunk[first:min(first+16*pages, len(chunk))]...)
			all = append(all, api.Setup{Pages: pages, Image: image, Fuel: 200})
		}
	}
	return all
}

func TestP1InterpretEnds(t *testing.T) {
	outcomes := map[api.Outcome]int{}
	for _, s := range someSetups() {
		r := interpret(t, s)
		if r.Steps > s.Fuel || r.Steps == s.Fuel && r.Outcome != api.OutOfFuel && r.Outcome != api.Exited || r.Regs[0] != 0 || len(r.Memory) != 64*s.Pages {
			t.Fatalf("Interpret(%#v) = %#v", s, r)
		}
		outcomes[r.Outcome]++
	}
	for _, outcome := range []api.Outcome{api.OutOfFuel, api.Illegal, api.FetchAlign, api.FetchFault, api.LoadAlign, api.LoadFault, api.StoreAlign, api.StoreFault} {
		if outcomes[outcome] == 0 {
			t.Errorf("no run has the outcome %d", outcome)
		}
	}
}

func TestP2InterpretAnswersAgain(t *testing.T) {
	setups := someSetups()
	setups = setups[:min(len(setups), 3000)]
	var first []api.Report
	for _, s := range setups {
		first = append(first, interpret(t, s))
	}
	for i, s := range slices.Backward(setups) {
		if again := interpret(t, s); !reflect.DeepEqual(again, first[i]) {
			t.Fatalf("Interpret(%#v) = %#v, then %#v", s, first[i], again)
		}
	}
}
