package compile_test

import (
	"slices"
	"strconv"
	"strings"
	"testing"

	"quern/alloc"
	"quern/api"
	"quern/build"
	"quern/dce"
	"quern/emit"
	"quern/lex"
	"quern/parse"
	"quern/r16"
	"quern/sample"
	"quern/types"
	"quern/unssa"
)

// refusalOf is the fault of a text and, if it has none, its tree as types leaves it: by DOC.md's words on why a text is refused.
func refusalOf(text []byte) (api.Tree, api.Fault) {
	if len(text) > api.MaxSource {
		return api.Tree{}, api.Fault{Class: api.ClassLong, At: api.MaxSource}
	}
	tokens, torn, why := lex.Tokens(text)
	if why != api.OK { // it counts as a token that begins nothing
		tokens = append(tokens, api.Token{At: torn})
	}
	tree, nests, at, e := parse.Parse(tokens, len(text))
	switch {
	case e == api.ErrParseToken && why != api.OK && at == torn:
		return api.Tree{}, api.Fault{Class: api.ClassSyntax, At: at, What: int(why)}
	case e != api.OK:
		return api.Tree{}, api.Fault{Class: api.ClassSyntax, At: at, What: int(e)}
	}
	tree, at, e = types.Types(tree)
	if e != api.OK {
		return api.Tree{}, api.Fault{Class: api.ClassType, At: at, What: int(e)}
	}
	_, refused, e := build.Build(tree)
	for i, f := range tree.Funcs {
		fault := api.Fault{Class: api.ClassLimit, At: tree.Nodes[f].At}
		if nests[i] > api.MaxNest {
			fault.What = 1
			return api.Tree{}, fault
		}
		if e != api.OK && i == refused {
			fault.What = int(e) - 109
			return api.Tree{}, fault
		}
	}
	return tree, api.Fault{}
}

// levels are a program at each of them.
type levels struct {
	tree  api.Tree
	built api.SSA
	clean api.SSA
	lir   api.LIR
	alir  api.ALIR
	code  api.Code
}

// levelsOf makes them one behind the other: none of the passes refuses what the one ahead has made (W3, W6).
func levelsOf(t testing.TB, tree api.Tree) levels {
	t.Helper()
	l := levels{tree: tree}
	var list [6]api.Errno
	l.built, _, list[0] = build.Build(tree)
	l.clean, list[1] = dce.Clean(l.built)
	l.lir, list[2] = unssa.Lower(l.clean)
	l.alir, list[3] = alloc.Allocate(l.lir)
	l.code, list[4] = emit.Emit(l.alir)
	list[5] = r16.Check(l.code)
	if list != [6]api.Errno{} {
		t.Fatalf("W3, W6: a pass refuses: %v", list)
	}
	return l
}

// report is what P2402 says of a function, by what its levels have; its saved registers are counted where calls save them.
func (l levels) report(i int) api.Report {
	var saved []int
	for _, b := range l.alir.Funcs[i].Blocks {
		for _, x := range b.Body {
			saved = append(saved, x.Saves...)
		}
	}
	slices.Sort(saved)
	name := l.tree.Nodes[l.tree.Funcs[i]].Name
	saves, spills := len(slices.Compact(saved)), l.alir.Funcs[i].Slots
	return report(name, 2+saves+spills, saves, spills, l.lir.Funcs[i].Regs, len(l.built.Funcs[i].Values), len(l.built.Funcs[i].Blocks))
}

// toldOf is a whole program in words.
func toldOf(p api.Program) string {
	var b strings.Builder
	b.WriteString("main " + strconv.Itoa(p.Code.Main) + " nodes " + strconv.Itoa(p.Nodes) + "\n")
	for _, r := range p.Reports {
		b.WriteString(r.Name)
		for _, n := range []int{r.Frame, r.Saves, r.Spills, r.Vregs, r.Values, r.Blocks} {
			b.WriteString(" " + strconv.Itoa(n))
		}
		b.WriteString("\n")
	}
	return b.String() + sample.TellCode(p.Code)
}

// program is what must be made of a tree. Each node is one that is a function's or stands in another one.
func (l levels) program() api.Program {
	p := api.Program{Code: l.code, Nodes: len(l.tree.Funcs)}
	for _, n := range l.tree.Nodes {
		p.Nodes += len(n.Kids)
	}
	for i := range l.tree.Funcs {
		p.Reports = append(p.Reports, l.report(i))
	}
	return p
}
