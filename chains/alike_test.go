package chains_test

import (
	"reflect"
	"testing"

	"chains/api"
	"chains/chains"
)

func run(t *testing.T, s api.Setup) api.Report {
	t.Helper()
	r, err := chains.Run(s)
	if err != api.OK {
		t.Fatalf("Run(%#v) has the error %d", s, err)
	}
	return r
}

// caches are the fewest slots and the smallest arena, the most, and some that make blocks go and come at odd times.
func caches() [][2]int { return [][2]int{{1, 8}, {64, 256}, {3, 13}} }

// checkAlike holds Run against the report of Interpret, however few the slots are. Built must only be possible: no block is built without an instruction that is done, or tried.
func checkAlike(t *testing.T, s api.Setup, want api.Report) {
	t.Helper()
	for _, c := range caches() {
		s.Slots, s.Arena = c[0], c[1]
		got := run(t, s)
		if got.Built < 0 || got.Built > got.Steps+1 || got.Steps > 0 && got.Built == 0 {
			t.Fatalf("Run(%#v) builds %d blocks in %d steps", s, got.Built, got.Steps)
		}
		got.Built = 0
		if !reflect.DeepEqual(got, want) {
			t.Fatalf("Run(%#v)\n= %#v, one by one\n  %#v", s, got, want)
		}
	}
}
