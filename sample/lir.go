package sample

import (
	"slices"
	"strconv"
	"strings"

	"quern/api"
)

// LIR reads a program from a text, a line for each function and each block:
//
//	f(r0, r1) int regs 9
//	0: r2 const 3; r3 add r0 r2; print r3; r0 call f r3 r2; branch r1 1 2
//	1: jump 2
//	2: return r0
//
// What stands behind an operation's name is as SSA reads it; a const has a number. Without `regs` a function has just as many
// registers as its text names, with all below these. It panics where a text is of another form.
func LIR(text string) api.LIR {
	var l api.LIR
	parts := functionsIn(text)
	for _, lines := range parts {
		l.Funcs = append(l.Funcs, headLIR(lines[0])) // ahead of all calls of it
	}
	for i, lines := range parts {
		f := &l.Funcs[i]
		for _, line := range lines[1:] {
			f.Blocks = append(f.Blocks, blockLIR(l, line))
		}
		f.Regs = max(f.Regs, named(*f))
	}
	l.Main = slices.IndexFunc(l.Funcs, func(f api.LFunc) bool { return f.Name == "main" })
	return l
}

func headLIR(line string) api.LFunc {
	h := headOf(line, "regs")
	f := api.LFunc{Name: h.name, Result: h.result, Regs: h.size}
	for _, p := range h.params {
		f.Params = append(f.Params, register(p))
	}
	return f
}

// head is the line ahead of a function's blocks.
type head struct {
	name         string
	params       []string
	result, size int
}

// headOf reads a head; what stands behind that word is its size.
func headOf(line, word string) head {
	name, rest, _ := strings.Cut(line, "(")
	h := head{name: name, params: params(line)}
	_, rest, _ = strings.Cut(rest, ")")
	words := strings.Fields(rest)
	if len(words) > 0 && words[0] != word {
		h.result = typeOf(words[0])
		words = words[1:]
	}
	if len(words) > 0 {
		h.size = number(words[1])
	}
	return h
}

func register(name string) int {
	digits, is := strings.CutPrefix(name, "r")
	if !is {
		panic("no register: " + name)
	}
	return number(digits)
}

func blockLIR(l api.LIR, line string) api.LBlock {
	parts := partsOf(line)
	last := len(parts) - 1
	b := api.LBlock{Term: term(parts[last], register)}
	for _, words := range parts[:last] {
		b.Body = append(b.Body, insLIR(l, words))
	}
	return b
}

func insLIR(l api.LIR, words []string) api.LIns {
	x := api.LIns{Dst: -1}
	if opOf(words[0]) < 0 {
		x.Dst = register(words[0])
		words = words[1:]
	}
	x.Op = must(opOf(words[0]), words[0])
	imm, args := operand(x.Op, words[1:], func(name string) int {
		return slices.IndexFunc(l.Funcs, func(f api.LFunc) bool { return f.Name == name })
	})
	x.Imm = imm
	for _, a := range args {
		x.Args = append(x.Args, register(a))
	}
	return x
}

// operand is the Imm of an instruction, if one stands ahead of its Args, and these.
func operand(op int, words []string, called func(name string) int) (int, []string) {
	switch op {
	case api.InsCall:
		return must(called(words[0]), words[0]), words[1:]
	case api.InsConst, api.InsTrapZero, api.InsTrapNeg, api.InsTrapBound:
		return number(words[0]), words[1:]
	}
	return 0, words
}

// named is one more than the greatest register that a function names.
func named(f api.LFunc) int {
	most := -1
	for _, p := range f.Params {
		most = max(most, p)
	}
	for _, b := range f.Blocks {
		for _, x := range b.Body {
			most = max(most, x.Dst)
			for _, a := range x.Args {
				most = max(most, a)
			}
		}
		most = max(most, b.Term.Value)
	}
	return most + 1
}

// TellLIR writes LIR as LIR reads it: the same text for two programs just if they are the same, Main aside.
func TellLIR(l api.LIR) string {
	var b strings.Builder
	for _, f := range l.Funcs {
		b.WriteString(tellHead(f.Name, numbers(" r", f.Params), f.Result) + " regs " + strconv.Itoa(f.Regs) + "\n")
		for i, block := range f.Blocks {
			b.WriteString(strconv.Itoa(i) + ":")
			for _, x := range block.Body {
				b.WriteString(tellIns(l, x) + ";")
			}
			b.WriteString(tellTerm(block.Term, " r") + "\n")
		}
	}
	return b.String()
}

func tellHead(name, params string, result int) string {
	return strings.TrimSpace(name + "(" + strings.ReplaceAll(strings.TrimSpace(params), " ", ", ") + ") " + typeNames[result])
}

func tellIns(l api.LIR, x api.LIns) string {
	name := ""
	if x.Op == api.InsCall {
		name = l.Funcs[x.Imm].Name
	}
	text := tellOp(x.Op, x.Imm, name)
	if x.Dst != -1 {
		text = " r" + strconv.Itoa(x.Dst) + text
	}
	return text + numbers(" r", x.Args)
}

// tellOp writes what stands behind the Dst and ahead of the Args; a call's function has that name.
func tellOp(op, imm int, called string) string {
	switch op {
	case api.InsCall:
		return " call " + called
	case api.InsConst, api.InsTrapZero, api.InsTrapNeg, api.InsTrapBound:
		return " " + opNames[op] + " " + strconv.Itoa(imm)
	}
	return " " + opNames[op]
}
