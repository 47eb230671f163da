// Package compute reckons what the instructions on registers come to.
package compute

import "chains/api"

const allOnes uint32 = 1<<32 - 1

// Result answers what the operation makes of a and b, and 0 for operations that do not reckon.
func Result(op api.Op, a, b uint32) uint32 {
	switch op {
	case api.ADD, api.ADDI:
		return a + b
	case api.SUB:
		return a - b
	case api.XOR, api.XORI:
		return a ^ b
	case api.OR, api.ORI:
		return a | b
	case api.AND, api.ANDI:
		return a & b
	case api.SLL, api.SLLI:
		return a << shift(b)
	case api.SRL, api.SRLI:
		return a >> shift(b)
	case api.SRA, api.SRAI:
		return uint32(int32(a) >> shift(b))
	case api.SLT, api.SLTI:
		return number(int32(a) < int32(b))
	case api.SLTU, api.SLTIU:
		return number(a < b)
	case api.MUL:
		return a * b
	case api.MULH:
		return upper(signed(a) * signed(b))
	case api.MULHSU:
		return upper(signed(a) * int64(b))
	case api.MULHU:
		return uint32(uint64(a) * uint64(b) >> 32)
	case api.DIV:
		return divide(a, b)
	case api.DIVU:
		return divideUnsigned(a, b)
	case api.REM:
		return remainder(a, b)
	case api.REMU:
		return remainderUnsigned(a, b)
	}
	return 0
}

// shift keeps five bits, for Go shifts a number away where the machine begins anew at 32.
func shift(b uint32) uint32 { return b & 31 }

func number(yes bool) uint32 {
	if yes {
		return 1
	}
	return 0
}

func signed(a uint32) int64 { return int64(int32(a)) }

func upper(product int64) uint32 { return uint32(product >> 32) }

// divide reckons with 64 bits, so that the least number by -1 does not overflow; its lower half is the first number again.
func divide(a, b uint32) uint32 {
	if b == 0 {
		return allOnes
	}
	return uint32(signed(a) / signed(b))
}

func divideUnsigned(a, b uint32) uint32 {
	if b == 0 {
		return allOnes
	}
	return a / b
}

func remainder(a, b uint32) uint32 {
	if b == 0 {
		return a
	}
	return uint32(signed(a) % signed(b))
}

func remainderUnsigned(a, b uint32) uint32 {
	if b == 0 {
		return a
	}
	return a % b
}
