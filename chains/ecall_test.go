package chains_test

import (
	"reflect"
	"slices"
	"strings"
	"testing"

	"chains/api"
	"chains/chains"
)

func ecall() api.Instr { return api.Instr{Op: api.ECALL} }

// calling is one call with its three arguments, in nine instructions.
func calling(call, first, second, third uint32) []api.Instr {
	list := after(set(17, call), set(10, first)...)
	list = after(list, set(11, second)...)
	return after(after(list, set(12, third)...), ecall())
}

// told is an event more.
func told(call, result uint32, data string) change {
	return func(r *api.Report) {
		r.Events = append(slices.Clip(r.Events), api.Event{Call: call, Result: result, Data: data})
	}
}

func exited(r *api.Report) { r.Outcome, r.Steps = api.Exited, r.Steps+1 }

// checkCall does the last of the instructions in three pages that have no two same bytes side by side.
func checkCall(t *testing.T, list []api.Instr, answers []string, changes ...change) {
	t.Helper()
	s := inMemory(list)
	s.Answers = answers
	checkNext(t, s, len(list)-1, changes...)
}

// lengths go with an address: none, few, those round the memory's end behind it, and so many that their end is beyond 2^32.
func lengths(address uint32) []uint32 {
	all := []uint32{0, 1, 2, 5, 191, 192, 193, greatest, least, minusOne - 1, minusOne}
	for n := range uint32(5) {
		all = append(all, 192-address+n-2, n-address)
	}
	return all
}

func inThreePages(address, length uint32) bool { return int64(address)+int64(length) <= 192 }

func TestP8Write(t *testing.T) {
	written := 0
	for _, address := range places() {
		for _, length := range lengths(address) {
			list := calling(64, 1, address, length)
			if !inThreePages(address, length) {
				checkCall(t, list, nil, sets(10, api.Fault), done)
				continue
			}
			written++
			bytes := inMemory(list).Image[address:][:length]
			checkCall(t, list, nil, told(64, length, bytes), sets(10, length), done)
		}
	}
	if written < 200 {
		t.Errorf("only %d writes are no fault", written)
	}
}

// A write is no read: it uses up no answer, and where it goes does not matter.
func TestP8WriteTakesNeitherAnswerNorNumber(t *testing.T) {
	for _, number := range []uint32{0, 1, 2, 64, least, minusOne} {
		checkCall(t, calling(64, number, 64, 2), []string{"ab"}, told(64, 2, "\xFF\xFD"), sets(10, 2), done)
	}
	list := after(calling(64, 1, 64, 2), addi(17, 0, 63), ecall())
	checkCall(t, list, []string{"ab", "cd"}, writes(64, "ab"), told(63, 2, "ab"), sets(10, 2), done)
}

func TestP8WriteOfTheWholeMemory(t *testing.T) {
	for pages := 1; pages <= 8; pages++ {
		size := uint32(pages * 64)
		s := api.Setup{Pages: pages, Image: code(calling(64, 1, 0, size)...) + "tail"}
		checkNext(t, s, 8, told(64, size, untouched(s).Memory), sets(10, size), done)
		for _, c := range []struct{ address, length uint32 }{{0, size + 1}, {1, size}, {size, 1}, {size + 1, 0}, {minusOne, 1}, {minusOne, 0}, {least, least}, {1, minusOne}} {
			s.Image = code(calling(64, 1, c.address, c.length)...)
			checkNext(t, s, 8, sets(10, api.Fault), done)
		}
		s.Image = code(calling(64, 1, size, 0)...)
		checkNext(t, s, 8, told(64, 0, ""), sets(10, 0), done)
	}
}

// answersToRead have their first one none, empty, short, longer than the memory, and of bytes that are no letters.
func answersToRead() [][]string {
	return [][]string{nil, {}, {"", "next"}, {"x", "next"}, {"\x00\xFF\xC3", "next"}, {"abcde"}, {strings.Repeat("long", 100), "next"}}
}

func TestP8Read(t *testing.T) {
	read := 0
	for _, answers := range answersToRead() {
		answer := strings.Join(answers[:min(1, len(answers))], "")
		for _, address := range places() {
			for _, length := range lengths(address) {
				list := calling(63, 0, address, length)
				if !inThreePages(address, length) {
					checkCall(t, list, answers, sets(10, api.Fault), done)
					continue
				}
				read++
				bytes := answer[:min(len(answer), int(length))]
				number := uint32(len(bytes))
				checkCall(t, list, answers, writes(int(address), bytes), told(63, number, bytes), sets(10, number), done)
			}
		}
	}
	if read < 1000 {
		t.Errorf("only %d reads are no fault", read)
	}
}

func TestP8ReadOfTheWholeMemory(t *testing.T) {
	for pages := 1; pages <= 8; pages++ {
		size := pages * 64
		bytes := strings.Repeat("\x5A", size)
		s := api.Setup{Pages: pages, Image: code(calling(63, 0, 0, uint32(size))...), Answers: []string{bytes + "more"}}
		checkNext(t, s, 8, writes(0, bytes), told(63, uint32(size), bytes), sets(10, uint32(size)), done)
	}
}

// readsOf is a program that reads to 128, so many bytes each time.
func readsOf(lengths ...uint32) []api.Instr {
	list := after(set(11, 128), addi(17, 0, 63))
	for _, length := range lengths {
		list = after(list, addi(12, 0, int32(length)), ecall())
	}
	return list
}

func checkReads(t *testing.T, answers []string, lengths []uint32, want ...string) {
	t.Helper()
	list := readsOf(lengths...)
	r := interpret(t, api.Setup{Pages: 4, Image: code(list...), Answers: answers, Fuel: len(list)})
	var events []api.Event
	for _, data := range want {
		events = append(events, api.Event{Call: 63, Result: uint32(len(data)), Data: data})
	}
	if !slices.Equal(r.Events, events) || r.Steps != len(list) {
		t.Errorf("reads of %d from %q: %#v after %d steps, want %#v", lengths, answers, r.Events, r.Steps, events)
	}
}

func TestP8AnswersAreUsedUp(t *testing.T) {
	answers := []string{"one", "", "three", "four"}
	checkReads(t, answers, []uint32{9, 9, 9, 9, 9, 9}, "one", "", "three", "four", "", "")
	checkReads(t, answers, []uint32{2, 2, 2, 2, 2, 2}, "on", "", "th", "fo", "", "")
	checkReads(t, answers, []uint32{0, 9, 0, 5}, "", "", "", "four")
	checkReads(t, answers, []uint32{0, 0, 0, 0, 9}, "", "", "", "", "")
	checkReads(t, answers, []uint32{129, 1, 200, 1, 2047, 3}, "o", "", "thr")
	checkReads(t, answers, []uint32{129, 129, 129, 129, 129, 129, 128}, "one")
	checkReads(t, nil, []uint32{0, 1, 128}, "", "", "")
	checkReads(t, []string{strings.Repeat("a", 300), "b"}, []uint32{128, 128, 1}, strings.Repeat("a", 128), "b", "")
}

// A break that is refused is answered with the one that there was.
func TestP8Break(t *testing.T) {
	for pages := 1; pages <= 8; pages++ {
		size := uint32(pages * 64)
		for _, base := range []uint32{0, 4, size - 60, size - 36} {
			end := base + 36
			if end > size {
				continue
			}
			for _, number := range []uint32{0, 1, base, 35, 36, 37, end - 1, end, end + 1, size - 1, size, size + 1, least, least + end, minusOne - 63, minusOne} {
				s := api.Setup{Pages: pages, Image: code(calling(214, number, 7, 9)...), Base: base, Entry: base}
				want := end
				if number >= end && number <= size {
					want = number
				}
				checkNext(t, s, 8, broke(want), sets(10, want), done)
			}
		}
	}
}

func broke(at uint32) change { return func(r *api.Report) { r.Break = at } }

// The break goes on and back, between the image's end and the memory's, and no further.
func TestP8BreakOnAndBack(t *testing.T) {
	for _, c := range []struct{ number, want uint32 }{
		{100, 100}, {192, 192}, {150, 150}, {64, 64}, {63, 150}, {193, 150}, {0, 150}, {minusOne, 150}, {148, 148},
	} {
		list := after(set(10, 150), addi(17, 0, 214), ecall())
		list = after(after(list, set(10, c.number)...), ecall())
		s := api.Setup{Pages: 3, Image: code(list...) + strings.Repeat("\x00", 64-4*len(list))}
		checkNext(t, s, len(list)-1, broke(c.want), sets(10, c.want), done)
	}
}

func TestP8Exit(t *testing.T) {
	for _, number := range []uint32{0, 1, 7, greatest, least, minusOne} {
		checkCall(t, calling(93, number, 64, 3), []string{"answer"}, told(93, number, ""), exited)
	}
}

// Exit is done, so it needs fuel; behind it none is used.
func TestP8ExitAndFuel(t *testing.T) {
	list := after(calling(93, 5, 0, 0), addi(10, 0, 9), ebreak())
	for fuel := range 20 {
		r := interpret(t, api.Setup{Pages: 1, Image: code(list...), Fuel: fuel})
		outcome, steps, pc := api.OutOfFuel, fuel, uint32(4*fuel)
		var events []api.Event
		if fuel >= 9 {
			outcome, steps, pc = api.Exited, 9, 32
			events = []api.Event{{Call: 93, Result: 5}}
		}
		if r.Outcome != outcome || r.Steps != steps || r.PC != pc || !slices.Equal(r.Events, events) {
			t.Errorf("fuel %d: outcome %d, %d steps, pc %d, events %#v", fuel, r.Outcome, r.Steps, r.PC, r.Events)
		}
		if fuel >= 4 && r.Regs[10] != 5 {
			t.Errorf("fuel %d: register 10 is %d", fuel, r.Regs[10])
		}
	}
}

func TestP8CallsThatAreNone(t *testing.T) {
	for _, call := range []uint32{0, 1, 10, 62, 65, 92, 94, 213, 215, 64 + 256, 63 + 1<<16, 93 + least, minusOne} {
		checkCall(t, calling(call, 5, 64, 3), []string{"abc"}, sets(10, api.NoSys), done)
		checkCall(t, calling(call, 150, minusOne, minusOne), nil, sets(10, api.NoSys), done)
	}
	list := after(calling(62, 0, 64, 3), addi(17, 0, 63), ecall())
	checkCall(t, list, []string{"abc"}, writes(64, "abc"), told(63, 3, "abc"), sets(10, 3), done)
}

// The call is named by register 17 alone: every other register has the number of another one.
func TestP8OnlyRegisterSeventeenNamesTheCall(t *testing.T) {
	for _, c := range []struct {
		call   int32
		change change
	}{
		{64, told(64, 63, untouched(api.Setup{Pages: 1}).Memory[:63])}, {1, sets(10, api.NoSys)},
	} {
		var list []api.Instr
		for register := 1; register < 32; register++ {
			list = append(list, addi(register, 0, 63))
		}
		list = after(list, addi(11, 0, 192), addi(17, 0, c.call), ecall())
		s := api.Setup{Pages: 8, Image: code(list...), Answers: []string{"read"}}
		checkNext(t, s, len(list)-1, sets(10, 63), c.change, done)
	}
}

// A read is over the program at once: what stands behind the call is what was read, and so is what is gone back to.
func TestP8ReadsOverTheProgram(t *testing.T) {
	list := after(set(11, 0), addi(12, 0, 4), addi(17, 0, 63), ecall(), addi(1, 0, 1), ebreak())
	over := func(address int32, bytes string) api.Setup {
		list[1] = addi(11, 11, address)
		return api.Setup{Pages: 1, Image: code(list...), Answers: []string{bytes}}
	}
	checkNext(t, over(20, code(addi(1, 0, 9))), 5, sets(1, 9), done)
	checkNext(t, over(20, "\x00\x00\x00\x00"), 5, trapped(api.Illegal))
	checkNext(t, over(20, code(addi(2, 0, 0))[:2]), 5, sets(2, 1), done) // the upper half stays
	checkNext(t, over(16, code(ebreak())), 5, sets(1, 1), done)
	checkNext(t, over(16, code(ebreak())), 4, writes(16, code(ebreak())), told(63, 4, code(ebreak())), sets(10, 4), done)
	s := over(16, code(ebreak()))
	s.Image = code(after(list[:5], jal(0, -4))...)
	checkNext(t, s, 6, trapped(api.Break))
}

// What was told stays, whatever is done later to the memory that it was taken from.
func TestP8EventsKeepTheirBytes(t *testing.T) {
	list := after(set(11, 60), addi(12, 0, 4), addi(17, 0, 64), ecall(),
		addi(17, 0, 63), ecall(), toAddress(api.SW, 0, 0, 60),
		addi(17, 0, 64), ecall(), addi(17, 0, 63), ecall(), ecall(),
	)
	image := code(list...)
	image += strings.Repeat("\x00", 60-len(image)) + "at60"
	r := interpret(t, api.Setup{Pages: 1, Image: image, Answers: []string{"read", "over", ""}, Fuel: len(list)})
	want := []api.Event{{Call: 64, Result: 4, Data: "at60"}, {Call: 63, Result: 4, Data: "read"}, {Call: 64, Result: 4, Data: "\x00\x00\x00\x00"}, {Call: 63, Result: 4, Data: "over"}, {Call: 63}}
	if !slices.Equal(r.Events, want) || r.Memory[60:] != "over" || r.Outcome != api.OutOfFuel {
		t.Errorf("%#v", r)
	}
}

// talk writes, reads, asks for what is none, faults, breaks and exits.
func talk() api.Setup {
	list := after(calling(64, 1, 124, 4), addi(17, 0, 63), ecall())
	list = after(list, addi(17, 0, 5), ecall(), addi(12, 0, 5), addi(17, 0, 64), ecall())
	list = after(list, addi(10, 0, 125), addi(17, 0, 214), ecall(), addi(17, 0, 93), ecall())
	image := code(list...)
	return api.Setup{Pages: 2, Image: image, Answers: []string{"ab", "cd"}, Fuel: 100}
}

func TestP10TheWholeReportOfCalls(t *testing.T) {
	s := talk()
	want := untouched(s)
	want.Outcome, want.Steps, want.PC = api.Exited, 21, 80
	want.Regs[10], want.Regs[11], want.Regs[12], want.Regs[17] = 125, 124, 5, 93
	want.Break = 125
	writes(124, "ab")(&want)
	want.Events = []api.Event{{Call: 64, Result: 4, Data: "\x00\x00\x00\x00"}, {Call: 63, Result: 2, Data: "ab"}, {Call: 93, Result: 125}}
	if got := interpret(t, s); !reflect.DeepEqual(got, want) {
		t.Errorf("got  %#v\nwant %#v", got, want)
	}
}

func TestP10EventsAheadOfATrap(t *testing.T) {
	for _, c := range []struct {
		last    api.Instr
		outcome api.Outcome
	}{{ebreak(), api.Break}, {withImm(api.LW, 1, 0, 1), api.LoadAlign}, {jal(0, 2), api.FetchAlign}} {
		list := after(calling(64, 1, 64, 1), c.last)
		checkCall(t, list, nil, trapped(c.outcome))
		s := inMemory(list)
		s.Fuel = 100
		if r := interpret(t, s); !slices.Equal(r.Events, []api.Event{{Call: 64, Result: 1, Data: "\xFF"}}) {
			t.Errorf("outcome %d: %#v", r.Outcome, r.Events)
		}
	}
}

// The answers are a part of a longer list, whose rest is neither read nor written.
func TestP2AnswersStayAsTheyAre(t *testing.T) {
	all := []string{"before", "one", "two", "behind"}
	list := readsOf(2, 9, 9, 9)
	s := api.Setup{Pages: 4, Image: code(list...), Answers: all[1:3], Fuel: 100}
	for range 2 {
		r := interpret(t, s)
		if len(r.Events) != 4 || r.Events[0].Data != "on" || r.Events[1].Data != "two" || r.Events[2].Data != "" || r.Events[3].Data != "" {
			t.Errorf("the events are %#v", r.Events)
		}
		if !slices.Equal(all, []string{"before", "one", "two", "behind"}) || len(s.Answers) != 2 {
			t.Errorf("the answers were written into: %q", all)
		}
	}
}

// What comes out is the caller's: who writes into it changes neither the answers nor another run.
func TestP2EventsAreTheCallers(t *testing.T) {
	s := talk()
	want := interpret(t, s)
	kept := slices.Clone(want.Events)
	other := interpret(t, s)
	for i := range other.Events {
		other.Events[i] = api.Event{Call: 1, Result: 2, Data: "mine"}
	}
	_ = append(other.Events[:1], api.Event{Data: "mine"})
	if !slices.Equal(want.Events, kept) || !slices.Equal(s.Answers, []string{"ab", "cd"}) {
		t.Errorf("written into: %#v, %q", want.Events, s.Answers)
	}
	if again := interpret(t, s); !reflect.DeepEqual(again, want) {
		t.Errorf("%#v, then %#v", want, again)
	}
}

// All calls, with all arguments that lie at an edge, end.
func TestP1CallsEnd(t *testing.T) {
	edges := []uint32{0, 1, 35, 36, 63, 64, 65, 511, 512, 513, greatest, least, minusOne - 63, minusOne}
	for _, pages := range []int{1, 8} {
		for _, call := range []uint32{0, 63, 64, 93, 214, minusOne} {
			for _, first := range edges {
				for _, second := range edges {
					s := api.Setup{Pages: pages, Image: code(calling(call, first, second, first)...), Answers: []string{"a", "", "\xFF\xFF\xFF\xFF"}, Fuel: 200}
					r, err := chains.Interpret(s)
					if err != api.OK || r.Regs[0] != 0 || len(r.Memory) != 64*pages {
						t.Fatalf("Interpret(%#v) = %#v, %d", s, r, err)
					}
				}
			}
		}
	}
}
