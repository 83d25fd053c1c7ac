package sample

import (
	"slices"
	"strconv"
	"strings"

	"quern/api"
)

// LIR reads a program from a text, a line for each function and each block:
//
//	f(r0, r1) int regs 9
//	0: r2 const 3; r3 add r0 r2; print r3; r0 call f r3 r2; branch r1 1 2
//	1: jump 2
//	2: return r0
//
// What stands behind an operation's name is as SSA reads it; a const has a number. Without `regs` a function has just as many
// registers as its text names, with all below these. It panics where a text is of another form.
func LIR(text string) api.LIR {
	var l api.LIR
	var parts [][]string // of each function the lines of its blocks
	for line := range strings.Lines(text) {
		line = strings.TrimSpace(line)
		switch {
		case line == "":
		case strings.Contains(line, ":"):
			last := &parts[len(parts)-1]
			*last = append(*last, line)
		default:
			parts = append(parts, nil)
			l.Funcs = append(l.Funcs, headLIR(line)) // ahead of all calls of it
		}
	}
	for i, lines := range parts {
		f := &l.Funcs[i]
		for _, line := range lines {
			f.Blocks = append(f.Blocks, blockLIR(l, line))
		}
		f.Regs = max(f.Regs, named(*f))
	}
	l.Main = slices.IndexFunc(l.Funcs, func(f api.LFunc) bool { return f.Name == "main" })
	return l
}

func headLIR(line string) api.LFunc {
	name, rest, _ := strings.Cut(line, "(")
	f := api.LFunc{Name: name}
	for _, p := range params(line) {
		f.Params = append(f.Params, register(p))
	}
	_, rest, _ = strings.Cut(rest, ")")
	words := strings.Fields(rest)
	if len(words) > 0 && words[0] != "regs" {
		f.Result = typeOf(words[0])
		words = words[1:]
	}
	if len(words) > 0 {
		f.Regs = number(words[1])
	}
	return f
}

func register(name string) int {
	digits, is := strings.CutPrefix(name, "r")
	if !is {
		panic("no register: " + name)
	}
	return number(digits)
}

func blockLIR(l api.LIR, line string) api.LBlock {
	parts := partsOf(line)
	last := len(parts) - 1
	b := api.LBlock{Term: term(parts[last], register)}
	for _, words := range parts[:last] {
		b.Body = append(b.Body, insLIR(l, words))
	}
	return b
}

func insLIR(l api.LIR, words []string) api.LIns {
	x := api.LIns{Dst: -1}
	if opOf(words[0]) < 0 {
		x.Dst = register(words[0])
		words = words[1:]
	}
	x.Op = must(opOf(words[0]), words[0])
	args := words[1:]
	switch x.Op {
	case api.InsCall:
		x.Imm = must(slices.IndexFunc(l.Funcs, func(f api.LFunc) bool { return f.Name == args[0] }), args[0])
		args = args[1:]
	case api.InsConst, api.InsTrapZero, api.InsTrapNeg, api.InsTrapBound:
		x.Imm = number(args[0])
		args = args[1:]
	}
	for _, a := range args {
		x.Args = append(x.Args, register(a))
	}
	return x
}

// named is one more than the greatest register that a function names.
func named(f api.LFunc) int {
	most := -1
	for _, p := range f.Params {
		most = max(most, p)
	}
	for _, b := range f.Blocks {
		for _, x := range b.Body {
			most = max(most, x.Dst)
			for _, a := range x.Args {
				most = max(most, a)
			}
		}
		most = max(most, b.Term.Value)
	}
	return most + 1
}

// TellLIR writes LIR as LIR reads it: the same text for two programs just if they are the same, Main aside.
func TellLIR(l api.LIR) string {
	var b strings.Builder
	for _, f := range l.Funcs {
		b.WriteString(f.Name + "(" + strings.ReplaceAll(strings.TrimSpace(numbers(" r", f.Params)), " ", ", ") + ")")
		if f.Result != api.TypeNone {
			b.WriteString(" " + typeNames[f.Result])
		}
		b.WriteString(" regs " + strconv.Itoa(f.Regs) + "\n")
		for i, block := range f.Blocks {
			b.WriteString(strconv.Itoa(i) + ":")
			for _, x := range block.Body {
				b.WriteString(tellIns(l, x) + ";")
			}
			b.WriteString(tellTerm(block.Term, " r") + "\n")
		}
	}
	return b.String()
}

func tellIns(l api.LIR, x api.LIns) string {
	text := " " + opNames[x.Op]
	if x.Dst != -1 {
		text = " r" + strconv.Itoa(x.Dst) + text
	}
	switch x.Op {
	case api.InsCall:
		text += " " + l.Funcs[x.Imm].Name
	case api.InsConst, api.InsTrapZero, api.InsTrapNeg, api.InsTrapBound:
		text += " " + strconv.Itoa(x.Imm)
	}
	return text + numbers(" r", x.Args)
}
