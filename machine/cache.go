package machine

import "chains/api"

// block is a list of instructions made ready, that stand one behind the other in one page. Without any it is an empty slot.
type block struct {
	address uint32
	steps   []step
}

// pageHas tells whether one of the bytes from one address up to another is in the block's page.
func (b block) pageHas(from, to uint32) bool {
	page := b.address - b.address%api.PageSize
	return max(from, page) < min(to, page+api.PageSize)
}

// cache keeps blocks, so that they are not made ready again. That of a run one by one has no slots.
type cache struct {
	slots   []block
	arena   int
	taken   int // by all blocks since the last clearing, also by those that were forgotten
	profile profile
}

func newCache(slots, arena int) cache {
	return cache{slots: make([]block, slots), arena: arena, profile: profile{}}
}

func (c *cache) slot(address uint32) *block {
	return &c.slots[address/4%uint32(len(c.slots))]
}

func (c *cache) has(address uint32) bool {
	b := c.slot(address)
	return b.address == address && len(b.steps) > 0
}

// keep clears ahead of putting the block into its slot, so that the block itself stays.
func (c *cache) keep(b block) {
	if c.taken+len(b.steps) > c.arena {
		clear(c.slots)
		c.taken = 0
	}
	c.taken += len(b.steps)
	c.profile.countBuilt(b)
	*c.slot(b.address) = b
}

// forget empties the slots of all blocks of the pages that are written into, from one address up to another.
func (c *cache) forget(from, to uint32) {
	for i, b := range c.slots {
		if b.pageHas(from, to) {
			clear(c.slots[i : i+1])
		}
	}
}
