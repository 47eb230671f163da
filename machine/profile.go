package machine

import (
	"maps"
	"slices"

	"chains/api"
)

// profile tells of the blocks at each address at which one was built. It is no part of the slots, for what was forgotten or cleared is told of all the same.
type profile map[uint32]api.Block

// countBuilt takes the length of the block that was built last, for a program that writes over itself may make it another one.
func (p profile) countBuilt(b block) {
	told := p[b.address]
	told.PC = b.address
	told.Len = len(b.steps)
	told.Built++
	p[b.address] = told
}

func (p profile) countEntered(b block) {
	told := p[b.address]
	told.Entered++
	p[b.address] = told
}

// built answers how many blocks were built at all addresses together.
func (p profile) built() int {
	sum := 0
	for _, told := range p {
		sum += told.Built
	}
	return sum
}

// list sorts, for a map has no order of its own.
func (p profile) list() []api.Block {
	var blocks []api.Block
	for _, address := range slices.Sorted(maps.Keys(p)) {
		blocks = append(blocks, p[address])
	}
	return blocks
}
