package decode

// field answers the bits of the word from the lowest on, so many as the width says.
func field(word, lowest, width uint32) uint32 {
	return word >> lowest & (1<<width - 1)
}

func opcode(word uint32) uint32 { return field(word, 0, 7) }
func funct3(word uint32) uint32 { return field(word, 12, 3) }
func funct7(word uint32) uint32 { return field(word, 25, 7) }

func rd(word uint32) int  { return int(field(word, 7, 5)) }
func rs1(word uint32) int { return int(field(word, 15, 5)) }
func rs2(word uint32) int { return int(field(word, 20, 5)) }

// topBits answers the uppermost bits of the word as a number with the sign of bit 31: every immediate begins with them.
func topBits(word, width uint32) uint32 {
	return uint32(int32(word) >> (32 - width))
}

func immediateI(word uint32) int32 {
	return int32(topBits(word, 12))
}

func immediateS(word uint32) int32 {
	return int32(topBits(word, 7)<<5 | field(word, 7, 5))
}

func immediateB(word uint32) int32 {
	return int32(topBits(word, 1)<<12 | field(word, 7, 1)<<11 | field(word, 25, 6)<<5 | field(word, 8, 4)<<1)
}

func immediateU(word uint32) int32 {
	return int32(topBits(word, 20) << 12)
}

func immediateJ(word uint32) int32 {
	return int32(topBits(word, 1)<<20 | field(word, 12, 8)<<12 | field(word, 20, 1)<<11 | field(word, 21, 10)<<1)
}
