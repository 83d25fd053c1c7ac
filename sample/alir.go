package sample

import (
	"slices"
	"strconv"
	"strings"

	"quern/api"
)

// ALIR reads a program from a text, a line for each function and each block:
//
//	f(r0, s1) int slots 4
//	0: r2 const 3; s0 add r0 r2; print s0; r0 call f r2 s0 save 1 2; branch s1 1 2
//	1: jump 2
//	2: return r0
//
// It is as LIR reads it; r0 .. are registers, s0 .. slots, and behind `save` stand the numbers of a call's Saves. Without
// `slots` a function has just as many slots as its text names, with all below these. It panics where a text is of another form.
func ALIR(text string) api.ALIR {
	var a api.ALIR
	parts := functionsIn(text)
	for _, lines := range parts {
		a.Funcs = append(a.Funcs, headALIR(lines[0])) // ahead of all calls of it
	}
	for i, lines := range parts {
		f := &a.Funcs[i]
		for _, line := range lines[1:] {
			f.Blocks = append(f.Blocks, blockALIR(a, line))
		}
		f.Slots = max(f.Slots, namedSlots(*f))
	}
	a.Main = slices.IndexFunc(a.Funcs, func(f api.AFunc) bool { return f.Name == "main" })
	return a
}

func headALIR(line string) api.AFunc {
	h := headOf(line, "slots")
	return api.AFunc{Name: h.name, Params: places(h.params), Result: h.result, Slots: h.size}
}

func place(name string) api.Loc {
	if digits, is := strings.CutPrefix(name, "s"); is {
		return api.Loc{Kind: api.LocSlot, N: number(digits)}
	}
	return api.Loc{Kind: api.LocReg, N: register(name)}
}

func places(names []string) (list []api.Loc) {
	for _, name := range names {
		list = append(list, place(name))
	}
	return list
}

func blockALIR(a api.ALIR, line string) api.ABlock {
	parts := partsOf(line)
	last := len(parts) - 1
	var b api.ABlock
	t := term(parts[last], func(name string) int {
		b.Term.Value = place(name)
		return 0
	})
	b.Term.Kind, b.Term.To = t.Kind, t.To
	for _, words := range parts[:last] {
		b.Body = append(b.Body, insALIR(a, words))
	}
	return b
}

func insALIR(a api.ALIR, words []string) api.AIns {
	var x api.AIns
	if opOf(words[0]) < 0 {
		x.Dst = place(words[0])
		words = words[1:]
	}
	if i := slices.Index(words, "save"); i >= 0 {
		for _, register := range words[i+1:] {
			x.Saves = append(x.Saves, number(register))
		}
		words = words[:i]
	}
	x.Op = must(opOf(words[0]), words[0])
	imm, args := operand(x.Op, words[1:], func(name string) int {
		return slices.IndexFunc(a.Funcs, func(f api.AFunc) bool { return f.Name == name })
	})
	x.Imm, x.Args = imm, places(args)
	return x
}

// namedSlots is one more than the greatest slot that a function names.
func namedSlots(f api.AFunc) int {
	most := -1
	meet := func(list ...api.Loc) {
		for _, p := range list {
			if p.Kind == api.LocSlot {
				most = max(most, p.N)
			}
		}
	}
	meet(f.Params...)
	for _, b := range f.Blocks {
		for _, x := range b.Body {
			meet(x.Dst)
			meet(x.Args...)
		}
		meet(b.Term.Value)
	}
	return most + 1
}

// TellALIR writes ALIR as ALIR reads it: the same text for two programs just if they are the same, Main aside.
func TellALIR(a api.ALIR) string {
	var b strings.Builder
	for _, f := range a.Funcs {
		b.WriteString(tellHead(f.Name, tellPlaces(f.Params...), f.Result) + " slots " + strconv.Itoa(f.Slots) + "\n")
		for i, block := range f.Blocks {
			b.WriteString(strconv.Itoa(i) + ":")
			for _, x := range block.Body {
				b.WriteString(tellInsALIR(a, x) + ";")
			}
			b.WriteString(tellTerm(api.Term{Kind: block.Term.Kind, Value: -1}, "") + tellPlaces(block.Term.Value) + numbers(" ", block.Term.To) + "\n")
		}
	}
	return b.String()
}

// tellPlaces writes a blank and a name for each place, of none nothing.
func tellPlaces(list ...api.Loc) string {
	var b strings.Builder
	for _, p := range list {
		if p != (api.Loc{}) {
			b.WriteString([]string{"", " r", " s"}[p.Kind] + strconv.Itoa(p.N))
		}
	}
	return b.String()
}

func tellInsALIR(a api.ALIR, x api.AIns) string {
	name := ""
	if x.Op == api.InsCall {
		name = a.Funcs[x.Imm].Name
	}
	text := tellPlaces(x.Dst) + tellOp(x.Op, x.Imm, name) + tellPlaces(x.Args...)
	if len(x.Saves) > 0 {
		text += " save" + numbers(" ", x.Saves)
	}
	return text
}
