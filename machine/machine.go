// Package machine is what programs run on: registers, a memory, and the instructions that work on them.
package machine

import "chains/api"

// Machine is changed by instructions that are done, and by them alone: one that ends the run and is not done leaves it as it was.
type Machine struct {
	registers [32]uint32
	memory    []byte
	pc        uint32
	next      uint32 // where the pc goes behind the instruction that is being done
	imageEnd  uint32
	brk       uint32
	answers   []string // those that no read has used up yet
	events    []api.Event
	steps     int
	cache     cache
}

// Check answers what is wrong with the setup, if anything is.
func Check(s api.Setup) api.Errno {
	switch {
	case !within(s.Pages, 1, api.MaxPages):
		return api.ErrPages
	case !lies(uint64(s.Base), uint64(len(s.Image)), size(s.Pages)):
		return api.ErrImage
	case !within(s.Fuel, 0, api.MaxFuel):
		return api.ErrFuel
	}
	return api.OK
}

// CheckBlocks does so for a run in blocks.
func CheckBlocks(s api.Setup) api.Errno {
	if err := Check(s); err != api.OK {
		return err
	}
	if !within(s.Slots, 1, api.MaxSlots) || !within(s.Arena, api.MaxBlock, api.MaxArena) {
		return api.ErrCache
	}
	return api.OK
}

func within(number, least, most int) bool { return number == max(least, min(number, most)) }

// New makes the machine as it is at first. The setup must be one that Check lets pass.
func New(s api.Setup) *Machine {
	imageEnd := s.Base + uint32(len(s.Image))
	m := &Machine{
		memory:   make([]byte, size(s.Pages)),
		pc:       s.Entry,
		imageEnd: imageEnd,
		brk:      imageEnd,
		answers:  s.Answers,
	}
	copy(m.memory[s.Base:], s.Image)
	return m
}

// Interpret does instructions one at a time, so many as the fuel lets, and answers how the run ended.
func (m *Machine) Interpret(fuel int) api.Outcome {
	return outcomeOf(func() {
		for m.steps < fuel {
			m.do(m.fetch())
		}
	})
}

// Report tells what has come of the run.
func (m *Machine) Report(outcome api.Outcome) api.Report {
	return api.Report{
		Outcome: outcome,
		PC:      m.pc,
		Regs:    m.registers,
		Break:   m.brk,
		Memory:  string(m.memory),
		Events:  m.events,
		Steps:   m.steps,
		Built:   m.cache.profile.built(),
	}
}

// Profile tells of the blocks of the run, in the order of their addresses.
func (m *Machine) Profile() []api.Block { return m.cache.profile.list() }
