package chains_test

import (
	"reflect"
	"strings"
	"testing"

	"chains/api"
	"chains/chains"
)

// interpret holds Run to the same, so that whatever is asked of the one is asked of the other (P11).
func interpret(t *testing.T, s api.Setup) api.Report {
	t.Helper()
	r, err := chains.Interpret(s)
	if err != api.OK {
		t.Fatalf("Interpret(%#v) has the error %d", s, err)
	}
	checkAlike(t, s, r)
	return r
}

// change is what one instruction makes of a report.
type change func(*api.Report)

func sets(register int, number uint32) change {
	return func(r *api.Report) { r.Regs[register] = number }
}

func writes(address int, bytes string) change {
	return func(r *api.Report) { r.Memory = r.Memory[:address] + bytes + r.Memory[address+len(bytes):] }
}

func done(r *api.Report) { r.PC, r.Steps = r.PC+4, r.Steps+1 }

func jumped(to uint32) change {
	return func(r *api.Report) { r.PC, r.Steps = to, r.Steps+1 }
}

func trapped(outcome api.Outcome) change {
	return func(r *api.Report) { r.Outcome = outcome }
}

// checkNext does so many instructions, then one more: the second report must be the first but for the changes, to the last byte of the memory.
func checkNext(t *testing.T, s api.Setup, steps int, changes ...change) {
	t.Helper()
	s.Fuel = steps
	want := interpret(t, s)
	if want.Outcome != api.OutOfFuel || want.Steps != steps {
		t.Fatalf("of %d instructions %d are done, with the outcome %d", steps, want.Steps, want.Outcome)
	}
	for _, c := range changes {
		c(&want)
	}
	s.Fuel = steps + 1
	if got := interpret(t, s); !reflect.DeepEqual(got, want) {
		t.Fatalf("at %d with registers %X:\ngot  %#v\nwant %#v", s.Entry, want.Regs, got, want)
	}
}

// checkLast does it with the last of the instructions, which lie one behind the other in two pages.
func checkLast(t *testing.T, list []api.Instr, changes ...change) {
	t.Helper()
	checkNext(t, api.Setup{Pages: 2, Image: code(list...)}, len(list)-1, changes...)
}

func TestP6Examples(t *testing.T) {
	s := api.Setup{Pages: 1, Image: "\x6F\x00\x00\x00", Fuel: 5}
	want := untouched(s)
	want.Steps = 5
	if got := interpret(t, s); !reflect.DeepEqual(got, want) {
		t.Errorf("the run of the examples: %#v, want %#v", got, want)
	}
}

func TestP6Upper(t *testing.T) {
	for _, imm := range []int32{0, 4096, -4096, 0x7FFFF000, -0x80000000} {
		checkLast(t, []api.Instr{{Op: api.LUI, Rd: 5, Imm: imm}}, sets(5, uint32(imm)), done)
		checkLast(t, []api.Instr{{Op: api.AUIPC, Rd: 5, Imm: imm}}, sets(5, uint32(imm)), done)
		checkLast(t, []api.Instr{fence(), fence(), {Op: api.AUIPC, Rd: 31, Imm: imm}}, sets(31, uint32(imm)+8), done)
	}
}

func TestP6Reckoning(t *testing.T) {
	for op := api.ADD; op <= api.REMU; op++ {
		for _, a := range []uint32{0, 7, 0x80000001, least, minusOne} {
			for _, b := range []uint32{0, 3, 33, greatest, minusOne} {
				given := after(set(1, a), set(2, b)...)
				checkLast(t, after(given, api.Instr{Op: op, Rd: 3, Rs1: 1, Rs2: 2}), sets(3, chains.Compute(op, a, b)), done)
				checkLast(t, after(given, api.Instr{Op: op, Rd: 1, Rs1: 1, Rs2: 2}), sets(1, chains.Compute(op, a, b)), done)
				checkLast(t, after(given, api.Instr{Op: op, Rd: 2, Rs1: 1, Rs2: 2}), sets(2, chains.Compute(op, a, b)), done)
				checkLast(t, after(given, api.Instr{Op: op, Rd: 31, Rs1: 2, Rs2: 2}), sets(31, chains.Compute(op, b, b)), done)
			}
		}
	}
}

func TestP6ReckoningWithAnImmediate(t *testing.T) {
	for op := api.ADDI; op <= api.SRAI; op++ {
		immediates := []int32{0, 1, 31}
		if op < api.SLLI {
			immediates = append(immediates, 32, 2047, -1, -2048)
		}
		for _, a := range []uint32{0, 7, 0x80000001, least, minusOne} {
			for _, imm := range immediates {
				want := chains.Compute(op, a, uint32(imm))
				checkLast(t, after(set(1, a), withImm(op, 3, 1, imm)), sets(3, want), done)
				checkLast(t, after(set(1, a), withImm(op, 1, 1, imm)), sets(1, want), done)
			}
		}
	}
}

func TestP6FenceDoesNothing(t *testing.T) {
	checkLast(t, []api.Instr{fence()}, done)
	for _, w := range []uint32{0xFFFF8F8F, 0xFFFF9F8F} {
		checkNext(t, api.Setup{Pages: 1, Image: bytesOf(w)}, 0, done)
	}
}

// Each instruction with a destination is tried with a value that is not 0, and register 0 is then read.
func TestP6RegisterZero(t *testing.T) {
	given := append(set(1, 60), addi(2, 0, 7))
	for _, in := range []api.Instr{
		{Op: api.LUI, Imm: 4096}, {Op: api.AUIPC, Imm: 4096}, addi(0, 2, 1), withImm(api.SLLI, 0, 2, 1),
		{Op: api.ADD, Rs1: 1, Rs2: 2}, {Op: api.MUL, Rs1: 1, Rs2: 2},
		withImm(api.LB, 0, 0, 0), withImm(api.LH, 0, 0, 0), withImm(api.LW, 0, 0, 0), withImm(api.LBU, 0, 0, 0), withImm(api.LHU, 0, 0, 0),
	} {
		checkLast(t, after(given, in), done)
		checkLast(t, after(given, in, addi(3, 0, 5)), sets(3, 5), done)
	}
	checkLast(t, after(given, jal(0, 40)), jumped(52))
	checkLast(t, after(given, withImm(api.JALR, 0, 1, 4)), jumped(64))
}

func TestP6Jumps(t *testing.T) {
	for _, imm := range []int32{0, 4, -4, 8, -8, 116, 120, 1<<20 - 4, -1 << 20} {
		checkLast(t, []api.Instr{fence(), fence(), jal(1, imm)}, sets(1, 12), jumped(uint32(8+imm)))
	}
	for _, base := range []uint32{0, 4, 100, 128, least, minusOne - 3} {
		for _, imm := range []int32{0, 4, -4, 2044, -2048} {
			to := base + uint32(imm)
			checkLast(t, after(set(1, base), withImm(api.JALR, 5, 1, imm)), sets(5, 12), jumped(to))
			checkLast(t, after(set(1, base), withImm(api.JALR, 1, 1, imm)), sets(1, 12), jumped(to))
			checkLast(t, after(set(1, base), withImm(api.JALR, 5, 1, imm+1)), sets(5, 12), jumped(to))
			checkLast(t, after(set(1, base+1), withImm(api.JALR, 5, 1, imm)), sets(5, 12), jumped(to))
		}
	}
	checkLast(t, after(set(1, 3), withImm(api.JALR, 1, 1, 1)), sets(1, 12), jumped(4))
}

// taken tells with 64 bits whether the branch is.
func taken(op api.Op, a, b uint32) bool {
	signedA, signedB := int64(int32(a)), int64(int32(b))
	return map[api.Op]bool{
		api.BEQ: a == b, api.BNE: a != b,
		api.BLT: signedA < signedB, api.BGE: signedA >= signedB,
		api.BLTU: int64(a) < int64(b), api.BGEU: int64(a) >= int64(b),
	}[op]
}

func TestP6Branches(t *testing.T) {
	edges := []uint32{0, 1, 5, greatest, least, least + 1, minusOne - 1, minusOne}
	for op := api.BEQ; op <= api.BGEU; op++ {
		for _, a := range edges {
			for _, b := range edges {
				given := after(set(1, a), set(2, b)...)
				for _, imm := range []int32{0, 4, 8, -4, -16, -20, 4092, -4096} {
					end := change(done)
					if taken(op, a, b) {
						end = jumped(uint32(16 + imm))
					}
					checkLast(t, after(given, toAddress(op, 1, 2, imm)), end)
				}
			}
		}
	}
}

// inMemory has the instructions in the first page, bytes with a sign in the second, and bytes without one in the third. No two that stand side by side are the same.
func inMemory(list []api.Instr) api.Setup {
	image := code(list...)
	var b strings.Builder
	b.WriteString(image + strings.Repeat("\x00", 64-len(image)))
	for n := range 64 {
		b.WriteByte(byte(255 - 2*n))
	}
	for n := range 64 {
		b.WriteByte(byte(1 + n))
	}
	return api.Setup{Pages: 3, Image: b.String()}
}

// places are addresses round the edges of pages and of the memory, and at the end of the numbers.
func places() []uint32 {
	var all []uint32
	for _, edge := range []uint32{64, 128, 192, 256, least, 0} {
		for n := range uint32(17) {
			all = append(all, edge+n-8)
		}
	}
	return all
}

// fit tells in 64 bits how an access of the width ends: aligned or not, in a memory of three pages or not.
func fit(address uint32, width int, align, fault api.Outcome) api.Outcome {
	switch {
	case int64(address)%int64(width) != 0:
		return align
	case int64(address)+int64(width) > 192:
		return fault
	}
	return api.OutOfFuel
}

func numberAt(memory string, address uint32, width int) uint32 {
	number := uint32(0)
	for n := range width {
		number |= uint32(memory[int(address)+n]) << (8 * n)
	}
	return number
}

type access struct {
	op     api.Op
	width  int
	signed bool
}

func TestP6P7Loads(t *testing.T) {
	for _, a := range []access{{api.LB, 1, true}, {api.LH, 2, true}, {api.LW, 4, true}, {api.LBU, 1, false}, {api.LHU, 2, false}} {
		for _, place := range places() {
			for _, imm := range []int32{0, 1, -4, 2047, -2048} {
				s := inMemory(append(set(1, place-uint32(imm)), withImm(a.op, 7, 1, imm)))
				if outcome := fit(place, a.width, api.LoadAlign, api.LoadFault); outcome != api.OutOfFuel {
					checkNext(t, s, 2, trapped(outcome))
					continue
				}
				want := numberAt(s.Image, place, a.width)
				if a.signed {
					unused := 32 - 8*a.width
					want = uint32(int32(want<<unused) >> unused)
				}
				checkNext(t, s, 2, sets(7, want), done)
			}
		}
	}
}

func TestP6P7Stores(t *testing.T) {
	for _, a := range []access{{api.SB, 1, false}, {api.SH, 2, false}, {api.SW, 4, false}} {
		for _, place := range places() {
			for _, imm := range []int32{0, 1, -4, 2047, -2048} {
				given := append(set(1, place-uint32(imm)), set(2, 0x81C2D3E4)...)
				s := inMemory(append(given, toAddress(a.op, 1, 2, imm)))
				if outcome := fit(place, a.width, api.StoreAlign, api.StoreFault); outcome != api.OutOfFuel {
					checkNext(t, s, 4, trapped(outcome))
					continue
				}
				checkNext(t, s, 4, writes(int(place), "\xE4\xD3\xC2\x81"[:a.width]), done)
			}
		}
	}
}

func TestP6LoadsIntoTheirOwnRegister(t *testing.T) {
	s := inMemory(append(set(1, 128), withImm(api.LW, 1, 1, 4)))
	checkNext(t, s, 2, sets(1, 0x08070605), done)
	s = inMemory(append(set(1, 128), toAddress(api.SW, 1, 1, 4)))
	checkNext(t, s, 2, writes(132, "\x80\x00\x00\x00"), done)
}
