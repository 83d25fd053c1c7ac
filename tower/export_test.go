package tower

import "quern/api"

// Mixed is a tower whose levels may be of unlike programs: of what compile makes Holds never finds that a level fails.
type Mixed struct {
	Tree    api.Tree
	Built   api.SSA
	Clean   api.SSA
	LIR     api.LIR
	ALIR    api.ALIR
	Program api.Program
}

func (m Mixed) tower(s api.Script) *tower {
	return &tower{Script: s, tree: m.Tree, built: m.Built, clean: m.Clean, lir: m.LIR, alir: m.ALIR, program: m.Program}
}

// Run is what Run tells of it.
func (m Mixed) Run(s api.Script) []api.Outcome {
	t := m.tower(s)
	return t.outcomes(t.runs())
}

// Holds is what Holds tells of it.
func (m Mixed) Holds(s api.Script) (bool, int) { return m.tower(s).agree() }

// Numbers are a and b of a level.
func (m Mixed) Numbers(level int) (a, b int) { return m.tower(api.Script{}).numbers(level) }
