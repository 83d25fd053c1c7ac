package sample

import (
	"slices"
	"strconv"
	"strings"

	"quern/api"
)

// The names of R16's instructions, by the numbers of their Ops.
var codeNames = []string{"", "ldi", "mov", "add", "sub", "mul", "div", "rem", "and", "or", "xor", "bic", "shl", "shr", "eq", "ne", "lt", "le", "neg", "inv", "not",
	"jmp", "bz", "bnz", "lds", "sts", "call", "ret", "alloc", "len", "ldx", "stx", "trapz", "trapn", "trapu", "trap", "inp", "outi", "outb"}

// The fields that they have, as package api says it.
var codeFields = []string{"", "AN", "AB", "ABC", "ABC", "ABC", "ABC", "ABC", "ABC", "ABC", "ABC", "ABC", "ABC", "ABC", "ABC", "ABC", "ABC", "ABC", "AB", "AB", "AB",
	"N", "AN", "AN", "AN", "AN", "N", "", "AB", "AB", "ABC", "ABC", "AN", "AN", "ABN", "AN", "A", "A", "A"}

// CodeFields are the fields that an Op of R16 has, such as ABN; nothing of what is no Op.
func CodeFields(op int) string {
	if op < 0 || op >= len(codeFields) {
		return ""
	}
	return codeFields[op]
}

// Code reads code from a text, a line for each function and one or some for its instructions:
//
//	main() frame 3
//	0: inp r0; trapz r0 1; ldi r1 100; div r1 r1 r0
//	4: sts r1 2; call down; bnz r1 0; ret
//	down(1) frame 4
//	8: lds r2 3; outi r2; ret
//
// Ahead of a line's instructions stands the number of the first one; in the head how many Params there are, if not 0. An
// instruction's registers stand in the order of their fields, then its N; a call's is the function's name. Without `frame` a
// frame has just the words that its function names. It panics where a text is of another form.
func Code(text string) api.Code {
	var c api.Code
	parts := functionsIn(text)
	for _, lines := range parts {
		c.Funcs = append(c.Funcs, headCode(lines[0])) // ahead of all calls of it
	}
	for i, lines := range parts {
		f := &c.Funcs[i]
		f.First = len(c.Ins)
		for _, line := range lines[1:] {
			if ahead, _, _ := strings.Cut(line, ":"); number(ahead) != len(c.Ins) {
				panic("no line of the instruction " + strconv.Itoa(len(c.Ins)) + ": " + line)
			}
			for _, words := range partsOf(line) {
				c.Ins = append(c.Ins, insCode(c, words))
			}
		}
		f.Count = len(c.Ins) - f.First
		f.Frame = max(f.Frame, namedWords(c.Ins[f.First:]))
	}
	c.Main = slices.IndexFunc(c.Funcs, func(f api.RFunc) bool { return f.Name == "main" })
	return c
}

func headCode(line string) api.RFunc {
	h := headOf(line, "frame")
	if h.result != api.TypeNone {
		panic("code has no results: " + line)
	}
	f := api.RFunc{Name: h.name, Frame: h.size}
	if len(h.params) > 0 {
		f.Params = number(h.params[0])
	}
	return f
}

func insCode(c api.Code, words []string) api.Ins {
	x := api.Ins{Op: must(slices.Index(codeNames, words[0]), words[0])}
	fields := CodeFields(x.Op)
	if len(words) != 1+len(fields) {
		panic("of another form: " + strings.Join(words, " "))
	}
	for i, word := range words[1:] {
		switch {
		case fields[i] == 'A':
			x.A = register(word)
		case fields[i] == 'B':
			x.B = register(word)
		case fields[i] == 'C':
			x.C = register(word)
		case x.Op == api.RCall:
			x.N = must(slices.IndexFunc(c.Funcs, func(f api.RFunc) bool { return f.Name == word }), word)
		default:
			x.N = number(word)
		}
	}
	return x
}

// namedWords is how many words a frame has that has just those that these instructions name.
func namedWords(list []api.Ins) int {
	most := 1
	for _, x := range list {
		if x.Op == api.RLds || x.Op == api.RSts {
			most = max(most, x.N)
		}
	}
	return most + 1
}

// TellCode writes code as Code reads it: the same text for two just if they are the same, Main aside.
func TellCode(c api.Code) string {
	var b strings.Builder
	for _, f := range c.Funcs {
		params := ""
		if f.Params > 0 {
			params = strconv.Itoa(f.Params)
		}
		b.WriteString(f.Name + "(" + params + ") frame " + strconv.Itoa(f.Frame) + "\n" + strconv.Itoa(f.First) + ":")
		for i, x := range c.Ins[f.First : f.First+f.Count] {
			if i > 0 {
				b.WriteString(";")
			}
			b.WriteString(tellInsCode(c, x))
		}
		b.WriteString("\n")
	}
	return b.String()
}

func tellInsCode(c api.Code, x api.Ins) string {
	text := " " + codeNames[x.Op]
	for _, field := range CodeFields(x.Op) {
		switch {
		case field == 'A':
			text += " r" + strconv.Itoa(x.A)
		case field == 'B':
			text += " r" + strconv.Itoa(x.B)
		case field == 'C':
			text += " r" + strconv.Itoa(x.C)
		case x.Op == api.RCall:
			text += " " + c.Funcs[x.N].Name
		default:
			text += " " + strconv.Itoa(x.N)
		}
	}
	return text
}

// SpacedCode is the code in new memory, with spare room behind each of its lists, in which stand numbers.
func SpacedCode(c api.Code) api.Code {
	c.Ins, c.Funcs = room(c.Ins, api.Ins{Op: 3}), room(c.Funcs, api.RFunc{Name: "spare"})
	return c
}

// SpoilCode writes over all that code has, spare room included.
func SpoilCode(c api.Code) {
	cover(c.Ins, api.Ins{Op: -1, A: -77, B: -77, C: -77, N: -77})
	cover(c.Funcs, api.RFunc{Frame: -77, First: -77, Count: -77, Params: -77})
}

// ShapeCode tells all that code has, spare room included.
func ShapeCode(c api.Code) string {
	var b strings.Builder
	put := func(list ...int) { b.WriteString(numbers(" ", list) + ";") }
	put(c.Main, len(c.Ins), len(c.Funcs))
	for _, x := range c.Ins[:cap(c.Ins)] {
		put(x.Op, x.A, x.B, x.C, x.N)
	}
	for _, f := range c.Funcs[:cap(c.Funcs)] {
		b.WriteString(strconv.Quote(f.Name))
		put(f.Frame, f.First, f.Count, f.Params)
	}
	return b.String()
}
