package chains_test

import (
	"math"
	"math/big"
	"testing"

	"chains/api"
	"chains/chains"
)

const (
	minusOne = 1<<32 - 1
	least    = 1 << 31   // the least signed number
	greatest = 1<<31 - 1 // the greatest signed number
)

func checkCompute(t *testing.T, op api.Op, a, b, want uint32) {
	t.Helper()
	if got := chains.Compute(op, a, b); got != want {
		t.Errorf("Compute(%d, %08X, %08X) = %08X, want %08X", op, a, b, got, want)
	}
}

type sum struct {
	op         api.Op
	a, b, want uint32
}

func checkSums(t *testing.T, sums []sum) {
	t.Helper()
	for _, s := range sums {
		checkCompute(t, s.op, s.a, s.b, s.want)
	}
}

func TestP4SumsAndBits(t *testing.T) {
	checkSums(t, []sum{
		{api.ADD, 2, 3, 5}, {api.ADD, minusOne, 2, 1}, {api.ADD, greatest, 1, least},
		{api.SUB, 5, 3, 2}, {api.SUB, 3, 5, minusOne - 1}, {api.SUB, 0, least, least},
		{api.XOR, 0xF0F0, 0xFF00, 0x0FF0}, {api.OR, 0xF0F0, 0xFF00, 0xFFF0}, {api.AND, 0xF0F0, 0xFF00, 0xF000},
	})
}

func TestP4Shifts(t *testing.T) {
	checkSums(t, []sum{
		{api.SLL, 3, 0, 3}, {api.SLL, 3, 31, least}, {api.SLL, 3, 32, 3}, {api.SLL, 3, 33, 6}, {api.SLL, 3, minusOne, least},
		{api.SRL, least, 31, 1}, {api.SRL, least, 32, least}, {api.SRL, minusOne, 0xFFFFFFE4, 0x0FFFFFFF},
		{api.SRA, least, 31, minusOne}, {api.SRA, least, 32, least}, {api.SRA, least, 4, 0xF8000000}, {api.SRA, greatest, 63, 0},
	})
}

func TestP4Comparisons(t *testing.T) {
	checkSums(t, []sum{
		{api.SLT, 1, 2, 1}, {api.SLT, 2, 2, 0}, {api.SLT, minusOne, 0, 1}, {api.SLT, 0, minusOne, 0}, {api.SLT, least, greatest, 1}, {api.SLT, greatest, least, 0},
		{api.SLTU, 1, 2, 1}, {api.SLTU, 2, 2, 0}, {api.SLTU, minusOne, 0, 0}, {api.SLTU, 0, minusOne, 1}, {api.SLTU, least, greatest, 0}, {api.SLTU, greatest, least, 1},
	})
}

func TestP4Products(t *testing.T) {
	checkSums(t, []sum{
		{api.MUL, 6, 7, 42}, {api.MUL, minusOne, minusOne, 1}, {api.MUL, 0x10000, 0x10000, 0},
		{api.MULH, 6, 7, 0}, {api.MULH, minusOne, minusOne, 0}, {api.MULH, minusOne, 1, minusOne}, {api.MULH, least, least, 1 << 30}, {api.MULH, least, greatest, 0xC0000000},
		{api.MULHSU, minusOne, 1, minusOne}, {api.MULHSU, 1, minusOne, 0}, {api.MULHSU, minusOne, minusOne, minusOne}, {api.MULHSU, least, minusOne, least}, {api.MULHSU, 2, minusOne, 1},
		{api.MULHU, minusOne, minusOne, minusOne - 1}, {api.MULHU, minusOne, 1, 0}, {api.MULHU, least, 2, 1},
	})
}

func TestP4Divisions(t *testing.T) {
	checkSums(t, []sum{
		{api.DIV, 7, 2, 3}, {api.DIV, 1<<32 - 7, 2, 1<<32 - 3}, {api.DIV, 7, 1<<32 - 2, 1<<32 - 3}, {api.DIV, 1<<32 - 7, 1<<32 - 2, 3},
		{api.REM, 7, 2, 1}, {api.REM, 1<<32 - 7, 2, minusOne}, {api.REM, 7, 1<<32 - 2, 1}, {api.REM, 1<<32 - 7, 1<<32 - 2, minusOne},
		{api.DIVU, 7, 2, 3}, {api.DIVU, minusOne, 2, greatest}, {api.DIVU, least, minusOne, 0},
		{api.REMU, 7, 2, 1}, {api.REMU, minusOne, 16, 15}, {api.REMU, least, minusOne, least},
	})
}

func TestP4DivisionByZeroAndOverflow(t *testing.T) {
	for _, a := range []uint32{0, 1, 7, greatest, least, minusOne} {
		checkCompute(t, api.DIV, a, 0, minusOne)
		checkCompute(t, api.DIVU, a, 0, minusOne)
		checkCompute(t, api.REM, a, 0, a)
		checkCompute(t, api.REMU, a, 0, a)
	}
	checkCompute(t, api.DIV, least, minusOne, least)
	checkCompute(t, api.REM, least, minusOne, 0)
}

func TestP4WithAnI(t *testing.T) {
	checkSums(t, []sum{
		{api.ADDI, 3, 1<<32 - 4, minusOne}, {api.XORI, 0xF0F0, minusOne, 0xFFFF0F0F}, {api.ORI, 0xF0F0, 0xFF00, 0xFFF0}, {api.ANDI, 0xF0F0, 0xFF00, 0xF000},
		{api.SLLI, 3, 33, 6}, {api.SRLI, least, 63, 1}, {api.SRAI, least, 63, minusOne},
		{api.SLTI, minusOne, 0, 1}, {api.SLTI, 0, minusOne, 0}, {api.SLTIU, minusOne, 0, 0}, {api.SLTIU, 0, minusOne, 1},
	})
	pairs := [][2]api.Op{{api.ADDI, api.ADD}, {api.SLTI, api.SLT}, {api.SLTIU, api.SLTU}, {api.XORI, api.XOR}, {api.ORI, api.OR}, {api.ANDI, api.AND}, {api.SLLI, api.SLL}, {api.SRLI, api.SRL}, {api.SRAI, api.SRA}}
	for _, a := range numbers() {
		for _, b := range numbers() {
			for _, pair := range pairs {
				checkCompute(t, pair[0], a, b, chains.Compute(pair[1], a, b))
			}
		}
	}
}

// numbers are the edges of signed and unsigned numbers and of shifts, and some others that follow from a rule.
func numbers() []uint32 {
	all := []uint32{0, 1, 2, 3, 31, 32, 33, 63, 64, 0xFFFF, 0x10000, greatest - 1, greatest, least, least + 1, minusOne - 1, minusOne}
	for n := uint32(12345); len(all) < 80; n = n*1664525 + 1013904223 {
		all = append(all, n)
	}
	return all
}

// exact reckons without bounds: both numbers unsigned, and both with their sign.
func exact(op api.Op, a, b uint32) *big.Int {
	ua, ub := new(big.Int).SetUint64(uint64(a)), new(big.Int).SetUint64(uint64(b))
	sa, sb := big.NewInt(int64(int32(a))), big.NewInt(int64(int32(b)))
	result := new(big.Int)
	switch op {
	case api.ADD:
		return result.Add(ua, ub)
	case api.SUB:
		return result.Sub(ua, ub)
	case api.XOR:
		return result.Xor(ua, ub)
	case api.OR:
		return result.Or(ua, ub)
	case api.AND:
		return result.And(ua, ub)
	case api.SLL:
		return result.Lsh(ua, uint(b%32))
	case api.SRL:
		return result.Rsh(ua, uint(b%32))
	case api.SRA:
		return result.Rsh(sa, uint(b%32))
	case api.SLT:
		return result.Rsh(big.NewInt(int64(1-sa.Cmp(sb))), 1)
	case api.SLTU:
		return result.Rsh(big.NewInt(int64(1-ua.Cmp(ub))), 1)
	case api.MUL:
		return result.Mul(ua, ub)
	case api.MULH:
		return result.Rsh(result.Mul(sa, sb), 32)
	case api.MULHSU:
		return result.Rsh(result.Mul(sa, ub), 32)
	case api.MULHU:
		return result.Rsh(result.Mul(ua, ub), 32)
	case api.DIV:
		return result.Quo(sa, sb)
	case api.DIVU:
		return result.Quo(ua, ub)
	case api.REM:
		return result.Rem(sa, sb)
	}
	return result.Rem(ua, ub)
}

func lowest32(n *big.Int) uint32 {
	return uint32(new(big.Int).And(n, big.NewInt(minusOne)).Uint64())
}

func TestP4AgainstExactNumbers(t *testing.T) {
	for _, a := range numbers() {
		for _, b := range numbers() {
			for op := api.ADD; op <= api.REMU; op++ {
				if op >= api.DIV && b == 0 {
					continue // has answers of its own: TestP4DivisionByZeroAndOverflow
				}
				checkCompute(t, op, a, b, lowest32(exact(op, a, b)))
			}
		}
	}
}

func TestP4OtherOperations(t *testing.T) {
	others := []api.Op{-1, -2, -api.ADD, -api.REMU, math.MinInt, math.MaxInt, math.MinInt32, math.MaxInt32, api.EBREAK + 1, 99}
	for op := api.LUI; op < api.ADDI; op++ {
		others = append(others, op)
	}
	for op := api.REMU + 1; op <= api.EBREAK; op++ {
		others = append(others, op)
	}
	// Numbers that are an operation in their lowest bits alone.
	for place := 6; place < 64; place++ {
		others = append(others, api.ADD+1<<place, api.OR|1<<place, api.DIV-1<<place)
	}
	for _, op := range others {
		for _, b := range []uint32{0, 1, 5, minusOne} {
			checkCompute(t, op, 5, b, 0)
			checkCompute(t, op, minusOne, b, 0)
		}
	}
}
