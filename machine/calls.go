package machine

import "chains/api"

// Where a call stands, its arguments, and what it answers: the answer takes the place of the first argument.
const (
	callRegister    = 17
	numberRegister  = 10
	addressRegister = 11
	lengthRegister  = 12
	answerRegister  = 10
)

func (m *Machine) call(api.Instr) {
	switch m.registers[callRegister] {
	case api.CallWrite:
		m.callWrite()
	case api.CallRead:
		m.callRead()
	case api.CallBrk:
		m.callBrk()
	case api.CallExit:
		m.callExit()
	default:
		m.set(answerRegister, api.NoSys)
	}
}

func (m *Machine) callWrite() {
	bytes, ok := m.span()
	if !ok {
		m.set(answerRegister, api.Fault)
		return
	}
	m.answerBytes(api.CallWrite, bytes)
}

// callRead asks for an answer only where there is room for it, for a fault uses none up.
func (m *Machine) callRead() {
	room, ok := m.span()
	if !ok {
		m.set(answerRegister, api.Fault)
		return
	}
	answer := m.nextAnswer()
	bytes := []byte(answer[:min(len(answer), len(room))])
	m.put(m.registers[addressRegister], bytes)
	m.answerBytes(api.CallRead, bytes)
}

// callBrk holds the number against the image's end, not against the break, so that the break may go back.
func (m *Machine) callBrk() {
	number := m.registers[numberRegister]
	if number >= m.imageEnd && uint64(number) <= uint64(len(m.memory)) {
		m.brk = number
	}
	m.set(answerRegister, m.brk)
}

// callExit counts by itself, for of all that ends a run early it alone is done.
func (m *Machine) callExit() {
	m.tell(api.Event{Call: api.CallExit, Result: m.registers[numberRegister]})
	m.steps++
	end(api.Exited)
}

// span answers the bytes of the memory that the arguments name, if they lie in it.
func (m *Machine) span() ([]byte, bool) {
	address, length := uint64(m.registers[addressRegister]), uint64(m.registers[lengthRegister])
	if !lies(address, length, uint64(len(m.memory))) {
		return nil, false
	}
	return m.memory[address : address+length], true
}

// answerBytes keeps the bytes as a text of its own, for the memory that they lie in may be written over later.
func (m *Machine) answerBytes(call uint32, bytes []byte) {
	number := uint32(len(bytes))
	m.tell(api.Event{Call: call, Result: number, Data: string(bytes)})
	m.set(answerRegister, number)
}

func (m *Machine) tell(event api.Event) { m.events = append(m.events, event) }

// nextAnswer goes on to the one behind it, even if not all of this one is read: the rest is lost.
func (m *Machine) nextAnswer() string {
	if len(m.answers) == 0 {
		return ""
	}
	next := m.answers[0]
	m.answers = m.answers[1:]
	return next
}
