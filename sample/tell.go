package sample

import (
	"strconv"
	"strings"

	"quern/api"
)

// Tell writes SSA as SSA reads it, each value by its number: the same text for two programs just if they are the same.
func Tell(s api.SSA) string {
	var b strings.Builder
	for _, f := range s.Funcs {
		var list []string
		for _, p := range f.Params {
			list = append(list, "v"+strconv.Itoa(p)+" "+typeNames[f.Values[p].Type])
		}
		b.WriteString(strings.TrimSpace(f.Name+"("+strings.Join(list, ", ")+") "+typeNames[f.Result]) + "\n")
		for i, block := range f.Blocks {
			b.WriteString(strconv.Itoa(i) + ":")
			for _, v := range block.Phis {
				b.WriteString(tellValue(s, f, v) + ";")
			}
			for _, v := range block.Body {
				b.WriteString(tellValue(s, f, v) + ";")
			}
			b.WriteString(tellTerm(block.Term, " v") + "\n")
		}
	}
	return b.String()
}

func tellValue(s api.SSA, f api.SFunc, number int) string {
	v := f.Values[number]
	text := " v" + strconv.Itoa(number) + " " + opNames[v.Op]
	switch v.Op {
	case api.InsConst:
		text += " " + tellConstant(v)
	case api.InsPhi:
		text += typeNames[v.Type]
	case api.InsCall:
		text += " " + s.Funcs[v.Imm].Name
	case api.InsTrapZero, api.InsTrapNeg, api.InsTrapBound:
		text += " " + strconv.Itoa(v.Imm)
	}
	return text + numbers(" v", v.Args)
}

func tellConstant(v api.Value) string {
	switch v.Type {
	case api.TypeBool:
		return strconv.FormatBool(v.Imm != 0)
	case api.TypeInts:
		return "nil"
	}
	return strconv.Itoa(v.Imm)
}

// tellTerm writes the end of a block, with what stands ahead of its Value's number.
func tellTerm(t api.Term, ahead string) string {
	text := []string{"", " jump", " branch", " return", " panic"}[t.Kind]
	if t.Value != -1 {
		text += ahead + strconv.Itoa(t.Value)
	}
	return text + numbers(" ", t.To)
}

func numbers(ahead string, list []int) string {
	var b strings.Builder
	for _, n := range list {
		b.WriteString(ahead + strconv.Itoa(n))
	}
	return b.String()
}
