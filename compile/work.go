package compile

import (
	"slices"

	"quern/api"
	"quern/build"
	"quern/lex"
	"quern/parse"
	"quern/types"
)

// work is a text, and what the passes have made of it so far.
type work struct {
	text  []byte
	tree  api.Tree
	nests []int   // how deep each function nests
	ssa   api.SSA // as built
	clean api.SSA
	lir   api.LIR
	alir  api.ALIR
	code  api.Code
}

func (w *work) measured() error {
	if len(w.text) > api.MaxSource {
		return refusal{errLong, api.MaxSource}
	}
	return nil
}

// parsed reads as far as there are tokens: one of them that can't follow counts ahead of what is no token behind them, and that ahead of an end that can't follow.
func (w *work) parsed() error {
	tokens, end, torn := lex.Tokens(w.text)
	if torn == api.OK {
		end = len(w.text)
	}
	tree, nests, at, why := parse.Parse(tokens, end)
	if torn != api.OK && why != api.ErrParseToken {
		return refused(torn, end)
	}
	w.tree, w.nests = tree, nests
	return refused(why, at)
}

func (w *work) typed() error {
	tree, at, why := types.Types(w.tree)
	w.tree = tree
	return refused(why, at)
}

// built looks for the first function that passes a limit, be it of nesting or one of build's.
func (w *work) built() error {
	s, place, why := build.Build(w.tree)
	deep := slices.IndexFunc(w.nests, func(n int) bool { return n > api.MaxNest })
	switch {
	case deep >= 0 && (why == api.OK || deep <= place):
		return w.passed(api.LimitNest, deep)
	case why != api.OK:
		return w.passed(limitOf(why), place)
	}
	w.ssa = s
	return nil
}

// passed is the refusal of a limit that a function has passed; place is its place in the text.
func (w *work) passed(which, place int) error {
	return refusal{limit(which), w.tree.Nodes[w.tree.Funcs[place]].At}
}

// limitOf is the limit that an error of build tells of.
func limitOf(why api.Errno) int {
	switch why {
	case api.ErrBuildParams:
		return api.LimitParams
	case api.ErrBuildBlocks:
		return api.LimitBlocks
	case api.ErrBuildValues:
		return api.LimitValues
	}
	return api.LimitProgram
}

// reports tell of each function what the levels have of it.
func (w *work) reports() []api.Report {
	list := make([]api.Report, len(w.code.Funcs))
	for i, f := range w.code.Funcs {
		spills := w.alir.Funcs[i].Slots
		list[i] = api.Report{
			Name:   f.Name,
			Frame:  f.Frame,
			Saves:  f.Frame - 2 - spills,
			Spills: spills,
			Vregs:  w.lir.Funcs[i].Regs,
			Values: len(w.ssa.Funcs[i].Values),
			Blocks: len(w.ssa.Funcs[i].Blocks),
		}
	}
	return list
}
