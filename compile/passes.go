package compile

import (
	"quern/alloc"
	"quern/api"
	"quern/dce"
	"quern/emit"
	"quern/unssa"
)

// pass makes something of what those ahead of it have made.
type pass struct {
	class int // of its refusals
	run   func() error
}

// passes are those that can refuse a text, then those that take whatever is made of what was not refused.
func passes(w *work) []pass {
	return []pass{
		{api.ClassLong, w.measured},
		{api.ClassSyntax, w.parsed},
		{api.ClassType, w.typed},
		{api.ClassLimit, w.built},
		{api.ClassNone, turned(dce.Clean, &w.ssa, &w.clean)},
		{api.ClassNone, turned(unssa.Lower, &w.clean, &w.lir)},
		{api.ClassNone, turned(alloc.Allocate, &w.lir, &w.alir)},
		{api.ClassNone, turned(emit.Emit, &w.alir, &w.code)},
	}
}

// turned is a pass from one level to another.
func turned[A, B any](run func(A) (B, api.Errno), from *A, to *B) func() error {
	return func() error {
		made, why := run(*from)
		*to = made
		return refused(why, 0)
	}
}
