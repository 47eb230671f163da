package machine

import "chains/api"

func size(pages int) uint64 { return uint64(pages) * api.PageSize }

// lies takes 64 bits, for a thing whose end goes beyond 2^32 does not begin anew at 0.
func lies(address, width, size uint64) bool {
	return address+width <= size
}

// guard ends the run, if the thing at the address is not aligned or does not lie in the memory.
func (m *Machine) guard(address, width uint32, align, fault api.Outcome) {
	if address%width != 0 {
		end(align)
	}
	if !lies(uint64(address), uint64(width), uint64(len(m.memory))) {
		end(fault)
	}
}

// read answers the bytes at the address, up to four that must lie in the memory, as a number.
func (m *Machine) read(address, width uint32) uint32 {
	var bytes [4]byte
	copy(bytes[:width], m.memory[address:])
	return uint32(bytes[0]) | uint32(bytes[1])<<8 | uint32(bytes[2])<<16 | uint32(bytes[3])<<24
}

// write puts the lowest bytes of the number, up to four, to the address. They must lie in the memory.
func (m *Machine) write(address, width, number uint32) {
	bytes := [4]byte{byte(number), byte(number >> 8), byte(number >> 16), byte(number >> 24)}
	m.put(address, bytes[:width])
}

// put is the only way by which instructions write, so that no block outlives what it was made from.
func (m *Machine) put(address uint32, bytes []byte) {
	copy(m.memory[address:], bytes)
	m.cache.forget(address, address+uint32(len(bytes)))
}
