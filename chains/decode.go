// Package chains: a machine run one by one and in blocks: see DOC.md.
package chains

import (
	"chains/api"
	"chains/compute"
	"chains/decode"
)

// Decode reads an instruction (P3).
func Decode(word uint32) (api.Instr, bool) { return decode.Word(word) }

// Compute is what an instruction on registers comes to (P4).
func Compute(op api.Op, a uint32, b uint32) uint32 { return compute.Result(op, a, b) }
