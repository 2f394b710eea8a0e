// Package sieve: policies over records, and the small machine that they are compiled for: see DOC.md.
package sieve

import (
	"sieve/api"
	"sieve/compile"
	"sieve/improve"
	"sieve/machine"
	"sieve/rules"
)

// Check tells whether a text is a policy (P3).
func Check(policy string) (api.Errno, int) { return rules.Check(policy) }

// Judge tells the verdict of a policy on a record (P4).
func Judge(policy string, record string) (int, api.Errno) { return rules.Judge(policy, record) }

// Encode writes instructions as bytes (P5).
func Encode(list []api.Instr) (string, api.Errno) { return machine.Encode(list) }

// Decode reads instructions (P5).
func Decode(code string) ([]api.Instr, api.Errno) { return machine.Decode(code) }

// Sound tells whether a code is sound (P6).
func Sound(code string) (api.Errno, int) { return machine.Sound(code) }

// Run runs a code on a record (P7).
func Run(code string, record string) (int, int, api.Errno) { return machine.Run(code, record) }

// Improve improves a code by passes (P8).
func Improve(code string, passes string) (string, api.Errno) { return improve.Improve(code, passes) }

// Compile makes a code out of a policy (P9).
func Compile(policy string, passes string) (string, api.Errno) {
	return compile.Compile(policy, passes)
}
