package chains_test

import (
	"math"
	"reflect"
	"slices"
	"strings"
	"testing"

	"chains/api"
	"chains/chains"
)

// someWords go round about ten times through all words, by an odd stride, so that they meet every opcode.
func someWords() []uint32 {
	words := []uint32{0, 0x73, 0x100073, minusOne}
	for n := range uint32(300000) {
		words = append(words, n*145393)
	}
	return words
}

func TestP1DecodeEnds(t *testing.T) {
	instructions := 0
	for _, word := range someWords() {
		in, ok := chains.Decode(word)
		if !ok && in != (api.Instr{}) {
			t.Fatalf("Decode(%08X) has %+v beside false", word, in)
		}
		if ok {
			instructions++
		}
	}
	if instructions == 0 {
		t.Error("none of the words is an instruction")
	}
}

// Operations that are none are asked as well, for division and the least number could panic in any of them.
func TestP1ComputeEnds(t *testing.T) {
	ops := []api.Op{math.MinInt, math.MaxInt}
	for op := api.Op(-100); op <= 200; op++ {
		ops = append(ops, op)
	}
	for _, op := range ops {
		for _, a := range numbers() {
			for _, b := range []uint32{0, 1, 31, 32, greatest, least, minusOne} {
				got := chains.Compute(op, a, b)
				if (op < api.ADDI || op > api.REMU) && got != 0 {
					t.Fatalf("Compute(%d, %d, %d) = %d", op, a, b, got)
				}
			}
		}
	}
}

func oddSetups() []api.Setup {
	setups := []api.Setup{{}}
	numbers := []int{math.MinInt, -1, 0, 1, 8, 9, 64, 65, 256, 257, 2000, 2001, math.MaxInt}
	for _, n := range numbers {
		setups = append(setups,
			api.Setup{Pages: n, Fuel: n, Slots: n, Arena: n},
			api.Setup{Pages: n, Image: "\x6F\x00\x00\x00", Fuel: 5, Slots: 1, Arena: 8},
			api.Setup{Pages: 1, Image: "\x6F\x00\x00\x00", Fuel: n, Slots: 1, Arena: 8},
			api.Setup{Pages: 1, Image: "\x6F\x00\x00\x00", Fuel: 5, Slots: n, Arena: n},
			api.Setup{Pages: 1, Image: strings.Repeat("\xFF", 65), Base: uint32(n), Entry: uint32(n), Answers: []string{"", "a"}, Fuel: 5, Slots: 1, Arena: 8},
		)
	}
	return setups
}

func TestP1RunsEnd(t *testing.T) {
	for _, s := range oddSetups() {
		if report, err := chains.Interpret(s); err != api.OK && !reflect.DeepEqual(report, api.Report{}) {
			t.Errorf("Interpret(%+v) has %+v beside %d", s, report, err)
		}
		if report, err := chains.Run(s); err != api.OK && !reflect.DeepEqual(report, api.Report{}) {
			t.Errorf("Run(%+v) has %+v beside %d", s, report, err)
		}
		if blocks, err := chains.Profile(s); err != api.OK && len(blocks) != 0 {
			t.Errorf("Profile(%+v) has %+v beside %d", s, blocks, err)
		}
	}
}

type decoded struct {
	in api.Instr
	ok bool
}

// The second pass goes backwards, so that an answer that leans on an earlier call differs.
func TestP2DecodeAnswersAgain(t *testing.T) {
	words := someWords()
	first := make([]decoded, len(words))
	for i, word := range words {
		first[i].in, first[i].ok = chains.Decode(word)
	}
	for i, word := range slices.Backward(words) {
		checkDecode(t, word, first[i].in, first[i].ok)
	}
}

func TestP2ComputeAnswersAgain(t *testing.T) {
	var sums []sum
	for op := api.LUI; op <= api.EBREAK; op++ {
		for _, a := range numbers() {
			for _, b := range numbers() {
				sums = append(sums, sum{op, a, b, chains.Compute(op, a, b)})
			}
		}
	}
	slices.Reverse(sums)
	checkSums(t, sums)
}

func TestP2RunsLeaveTheirSetup(t *testing.T) {
	answers := []string{"one", "", "two"}
	s := api.Setup{Pages: 1, Image: "\x6F\x00\x00\x00", Answers: answers, Fuel: 5, Slots: 1, Arena: 8}
	for range 2 {
		chains.Interpret(s)
		chains.Run(s)
		chains.Profile(s)
	}
	if !slices.Equal(answers, []string{"one", "", "two"}) {
		t.Errorf("the answers were written into: %q", answers)
	}
}
