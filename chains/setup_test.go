package chains_test

import (
	"math"
	"reflect"
	"strings"
	"testing"

	"chains/api"
	"chains/chains"
)

// checkErrno asks both ways of running: the errors of Interpret are those of Run and Profile, ahead of their own.
func checkErrno(t *testing.T, s api.Setup, want api.Errno) {
	t.Helper()
	r, err := chains.Interpret(s)
	checkRefused(t, "Interpret", s, r, err, want)
	s.Slots, s.Arena = 1, 8
	checkRunErrno(t, s, want)
	if want == api.OK {
		want = api.ErrCache
	}
	s.Slots = 0
	checkRunErrno(t, s, want)
	s.Slots, s.Arena = 64, 257
	checkRunErrno(t, s, want)
}

func checkRunErrno(t *testing.T, s api.Setup, want api.Errno) {
	t.Helper()
	r, err := chains.Run(s)
	checkRefused(t, "Run", s, r, err, want)
	checkProfileErrno(t, s, want)
}

// Where a run in blocks is refused, so is what would be told of it.
func checkProfileErrno(t *testing.T, s api.Setup, want api.Errno) {
	t.Helper()
	blocks, err := chains.Profile(s)
	if err != want {
		t.Errorf("Profile(%#v) has the error %d, want %d", s, err, want)
	}
	if err != api.OK && len(blocks) != 0 {
		t.Errorf("Profile(%#v) has %v beside the error %d", s, blocks, err)
	}
}

func checkRefused(t *testing.T, name string, s api.Setup, r api.Report, err, want api.Errno) {
	t.Helper()
	if err != want {
		t.Errorf("%s(%#v) has the error %d, want %d", name, s, err, want)
	}
	if err != api.OK && !reflect.DeepEqual(r, api.Report{}) {
		t.Errorf("%s(%#v) has %#v beside the error %d", name, s, r, err)
	}
}

func TestP5Pages(t *testing.T) {
	for pages := 1; pages <= 8; pages++ {
		checkErrno(t, api.Setup{Pages: pages}, api.OK)
	}
	for _, pages := range []int{math.MinInt, -8, -1, 0, 9, 10, 1 << 26, 1<<32 + 1, 1<<58 + 1, math.MaxInt} {
		checkErrno(t, api.Setup{Pages: pages}, api.ErrPages)
	}
}

func TestP5Image(t *testing.T) {
	for pages := 1; pages <= 8; pages++ {
		size := pages * 64
		whole := strings.Repeat("x", size)
		checkErrno(t, api.Setup{Pages: pages, Image: whole}, api.OK)
		checkErrno(t, api.Setup{Pages: pages, Image: whole + "x"}, api.ErrImage)
		checkErrno(t, api.Setup{Pages: pages, Image: whole, Base: 1}, api.ErrImage)
		checkErrno(t, api.Setup{Pages: pages, Image: whole[1:], Base: 1}, api.OK)
		checkErrno(t, api.Setup{Pages: pages, Image: "x", Base: uint32(size - 1)}, api.OK)
		checkErrno(t, api.Setup{Pages: pages, Image: "x", Base: uint32(size)}, api.ErrImage)
		checkErrno(t, api.Setup{Pages: pages, Base: uint32(size)}, api.OK)
		checkErrno(t, api.Setup{Pages: pages, Base: uint32(size + 1)}, api.ErrImage)
	}
}

// Base plus the length is not reckoned modulo 2^32: these would else lie at the memory's beginning.
func TestP5ImageNearTheNumbersEnd(t *testing.T) {
	for _, back := range []int{1, 2, 4, 64} {
		base := uint32(1<<32 - back)
		checkErrno(t, api.Setup{Pages: 1, Base: base}, api.ErrImage)
		checkErrno(t, api.Setup{Pages: 1, Base: base, Image: "x"}, api.ErrImage)
		checkErrno(t, api.Setup{Pages: 1, Base: base, Image: strings.Repeat("x", back)}, api.ErrImage)
		checkErrno(t, api.Setup{Pages: 1, Base: base, Image: strings.Repeat("x", back+1)}, api.ErrImage)
	}
	checkErrno(t, api.Setup{Pages: 8, Base: least}, api.ErrImage)
}

func TestP5Fuel(t *testing.T) {
	for _, fuel := range []int{0, 1, 1999, 2000} {
		checkErrno(t, api.Setup{Pages: 1, Fuel: fuel}, api.OK)
	}
	for _, fuel := range []int{math.MinInt, -2000, -1, 2001, 1<<32 + 1, math.MaxInt} {
		checkErrno(t, api.Setup{Pages: 1, Fuel: fuel}, api.ErrFuel)
	}
}

func TestP5ErrorsInTheirOrder(t *testing.T) {
	long := strings.Repeat("x", 600)
	for _, pages := range []int{-1, 0, 9} {
		checkErrno(t, api.Setup{Pages: pages, Image: long}, api.ErrPages)
		checkErrno(t, api.Setup{Pages: pages, Fuel: -1}, api.ErrPages)
		checkErrno(t, api.Setup{Pages: pages, Image: long, Fuel: 2001}, api.ErrPages)
	}
	checkErrno(t, api.Setup{Pages: 8, Image: long, Fuel: 2001}, api.ErrImage)
	checkErrno(t, api.Setup{Pages: 8, Base: 513, Fuel: -1}, api.ErrImage)
	checkErrno(t, api.Setup{Pages: 8, Base: 512, Fuel: -1}, api.ErrFuel)
}

func TestP11Slots(t *testing.T) {
	for slots := 1; slots <= 64; slots++ {
		checkRunErrno(t, api.Setup{Pages: 1, Slots: slots, Arena: 8}, api.OK)
	}
	for _, slots := range []int{math.MinInt, -64, -1, 0, 65, 66, 256, 1<<32 + 1, math.MaxInt} {
		checkRunErrno(t, api.Setup{Pages: 1, Slots: slots, Arena: 8}, api.ErrCache)
		checkRunErrno(t, api.Setup{Pages: 1, Slots: slots, Arena: 256}, api.ErrCache)
	}
}

func TestP11Arena(t *testing.T) {
	for arena := 8; arena <= 256; arena++ {
		checkRunErrno(t, api.Setup{Pages: 1, Slots: 64, Arena: arena}, api.OK)
	}
	for _, arena := range []int{math.MinInt, -8, -1, 0, 1, 7, 257, 258, 1<<32 + 8, math.MaxInt} {
		checkRunErrno(t, api.Setup{Pages: 1, Slots: 1, Arena: arena}, api.ErrCache)
		checkRunErrno(t, api.Setup{Pages: 1, Slots: 64, Arena: arena}, api.ErrCache)
		checkRunErrno(t, api.Setup{Pages: 1, Slots: 0, Arena: arena}, api.ErrCache)
		checkRunErrno(t, api.Setup{Pages: 1, Slots: 65, Arena: arena}, api.ErrCache)
	}
}

func TestP11ErrorsInTheirOrder(t *testing.T) {
	for _, cache := range [][2]int{{0, 8}, {1, 7}, {0, 0}, {65, 257}, {math.MinInt, math.MaxInt}} {
		slots, arena := cache[0], cache[1]
		checkRunErrno(t, api.Setup{Pages: 0, Image: "x", Fuel: -1, Slots: slots, Arena: arena}, api.ErrPages)
		checkRunErrno(t, api.Setup{Pages: 1, Base: 64, Image: "x", Fuel: -1, Slots: slots, Arena: arena}, api.ErrImage)
		checkRunErrno(t, api.Setup{Pages: 1, Fuel: 2001, Slots: slots, Arena: arena}, api.ErrFuel)
		checkRunErrno(t, api.Setup{Pages: 1, Fuel: 2000, Slots: slots, Arena: arena}, api.ErrCache)
	}
}

func TestP5SlotsAndArenaDoNotMatter(t *testing.T) {
	image := code(addi(1, 1, 1), jal(0, -4))
	want, _ := chains.Interpret(api.Setup{Pages: 1, Image: image, Fuel: 9})
	for _, n := range []int{math.MinInt, -1, 0, 1, 64, 65, 256, 257, math.MaxInt} {
		got, err := chains.Interpret(api.Setup{Pages: 1, Image: image, Fuel: 9, Slots: n, Arena: n})
		if err != api.OK || !reflect.DeepEqual(got, want) {
			t.Errorf("with %d slots and that arena: %#v, %d, want %#v", n, got, err, want)
		}
	}
}

// untouched is the report of a run that does nothing.
func untouched(s api.Setup) api.Report {
	size := s.Pages * 64
	before := strings.Repeat("\x00", int(s.Base))
	behind := strings.Repeat("\x00", size-len(before)-len(s.Image))
	return api.Report{PC: s.Entry, Break: s.Base + uint32(len(s.Image)), Memory: before + s.Image + behind}
}

// Without fuel it does not matter where the pc is.
func TestP5TheMachineAtFirst(t *testing.T) {
	for _, s := range []api.Setup{
		{Pages: 1},
		{Pages: 8, Entry: minusOne},
		{Pages: 3, Image: "abc", Base: 7, Entry: 40},
		{Pages: 1, Image: "\xFF\x00\x80", Base: 61, Entry: 64},
		{Pages: 2, Image: strings.Repeat("\xA5", 128), Entry: 2},
		{Pages: 2, Base: 128},
		{Pages: 1, Image: code(ebreak())},
	} {
		got, err := chains.Interpret(s)
		if want := untouched(s); err != api.OK || !reflect.DeepEqual(got, want) {
			t.Errorf("Interpret(%#v) = %#v, %d, want %#v", s, got, err, want)
		}
	}
}
