package sample

import (
	"slices"
	"strconv"
	"strings"

	"quern/api"
)

// The names of the operations, by their numbers. A Phi's has its type behind it.
var opNames = []string{"", "const", "add", "sub", "mul", "div", "rem", "and", "or", "xor", "bic", "shl", "shr", "eq", "ne", "lt", "le", "neg", "inv", "not",
	"len", "load", "store", "alloc", "input", "call", "print", "printbool", "trapzero", "trapneg", "trapbound", "move", "phi.", "param"}

var typeNames = []string{"", "int", "bool", "ints"}

// SSA reads a program from a text, a line for each function and each block:
//
//	f(a int, b bool) int
//	0: c const 3; d add a c; jump 1
//	1: e phi.int d f; f neg e; branch b 1 2
//	2: return e
//
// A value has a name where another one uses it. Of a const behind `const` stands its number, `true`, `false` or `nil`; of a
// trap, ahead of its Args, the kind; of a call the function's name. The values' numbers are their places in the text; but
// where all values of a function have names such as v7, these are their numbers. It panics where a text is of another form.
func SSA(text string) api.SSA {
	r := &reader{}
	parts := functionsIn(text)
	for _, lines := range parts {
		r.head(lines[0]) // ahead of all calls of it
	}
	for i, lines := range parts {
		r.function(&r.s.Funcs[i], lines)
	}
	r.s.Main = r.called("main")
	return r.s
}

// functionsIn are of each function in a text its lines: its head, then its blocks.
func functionsIn(text string) (parts [][]string) {
	for line := range strings.Lines(text) {
		line = strings.TrimSpace(line)
		switch {
		case line == "":
		case strings.Contains(line, ":"):
			last := &parts[len(parts)-1]
			*last = append(*last, line)
		default:
			parts = append(parts, []string{line})
		}
	}
	return parts
}

// reader has the functions as they grow, and of the one that is read the numbers of its values, by their places and by their names.
type reader struct {
	s      api.SSA
	places []int
	names  map[string]int
}

func (r *reader) called(name string) int {
	return slices.IndexFunc(r.s.Funcs, func(f api.SFunc) bool { return f.Name == name })
}

// params are a head's names and types, one behind the other.
func params(line string) []string {
	_, rest, _ := strings.Cut(line, "(")
	list, _, _ := strings.Cut(rest, ")")
	return strings.Fields(strings.ReplaceAll(list, ",", " "))
}

func (r *reader) head(line string) {
	name, rest, _ := strings.Cut(line, "(")
	_, result, _ := strings.Cut(rest, ")")
	f := api.SFunc{Name: name, Result: typeOf(strings.TrimSpace(result))}
	words := params(line)
	for i := range len(words) / 2 {
		f.Params = append(f.Params, i)
		f.Values = append(f.Values, api.Value{Op: api.InsParam, Type: typeOf(words[2*i+1]), Imm: i})
	}
	r.s.Funcs = append(r.s.Funcs, f)
}

func typeOf(name string) int { return must(slices.Index(typeNames, name), name) }

// must gives a number back that is none of a failed search.
func must(n int, text string) int {
	if n < 0 {
		panic("no such name: " + text)
	}
	return n
}

func (r *reader) function(f *api.SFunc, lines []string) {
	r.number(lines)
	values := make([]api.Value, len(r.places))
	place := 0
	put := func(v api.Value) int {
		number := r.places[place]
		values[number] = v
		place++
		return number
	}
	for i, v := range f.Values {
		f.Params[i] = put(v)
	}
	for _, line := range lines[1:] {
		parts := partsOf(line)
		var b api.Block
		for _, p := range parts[:len(parts)-1] {
			if v := r.value(p); v.Op == api.InsPhi {
				b.Phis = append(b.Phis, put(v))
			} else {
				b.Body = append(b.Body, put(v))
			}
		}
		b.Term = term(parts[len(parts)-1], r.numberOf)
		f.Blocks = append(f.Blocks, b)
	}
	f.Values = values
	setPreds(f)
}

// partsOf are the words of a block's values and of its end.
func partsOf(line string) (parts [][]string) {
	_, line, _ = strings.Cut(line, ":")
	for p := range strings.SplitSeq(line, ";") {
		parts = append(parts, strings.Fields(p))
	}
	return parts
}

// number gives the values of a function their numbers.
func (r *reader) number(lines []string) {
	var names []string
	words := params(lines[0])
	for i := range len(words) / 2 {
		names = append(names, words[2*i])
	}
	for _, line := range lines[1:] {
		parts := partsOf(line)
		for _, p := range parts[:len(parts)-1] {
			name := ""
			if opOf(p[0]) < 0 {
				name = p[0]
			}
			names = append(names, name)
		}
	}
	r.places, r.names = nil, map[string]int{}
	told := !slices.ContainsFunc(names, func(name string) bool { return numberIn(name) < 0 })
	for i, name := range names {
		if told {
			i = numberIn(name)
		}
		r.places = append(r.places, i)
		r.names[name] = i
	}
}

// numberIn is the number that a name tells; -1: none.
func numberIn(name string) int {
	if digits, is := strings.CutPrefix(name, "v"); is {
		if n, err := strconv.Atoi(digits); err == nil {
			return n
		}
	}
	return -1
}

func opOf(name string) int {
	if strings.HasPrefix(name, "phi.") {
		return api.InsPhi
	}
	return slices.Index(opNames, name)
}

func (r *reader) numberOf(name string) int {
	n, is := r.names[name]
	if !is {
		panic("no value " + name)
	}
	return n
}

func (r *reader) value(words []string) api.Value {
	if opOf(words[0]) < 0 {
		words = words[1:]
	}
	op, args := words[0], words[1:]
	v := api.Value{Op: must(opOf(op), op), Type: typeFrom(op)}
	switch v.Op {
	case api.InsConst:
		v.Type, v.Imm = constant(args[0])
		args = nil
	case api.InsCall:
		v.Imm = must(r.called(args[0]), args[0])
		v.Type = r.s.Funcs[v.Imm].Result
		args = args[1:]
	case api.InsTrapZero, api.InsTrapNeg, api.InsTrapBound:
		v.Imm = number(args[0])
		args = args[1:]
	}
	for _, a := range args {
		v.Args = append(v.Args, r.numberOf(a))
	}
	return v
}

// typeFrom is the Type that an operation's name tells; a const's and a call's are told apart.
func typeFrom(op string) int {
	switch op {
	case "store", "print", "printbool", "trapzero", "trapneg", "trapbound":
		return api.TypeNone
	case "eq", "ne", "lt", "le", "not", "phi.bool":
		return api.TypeBool
	case "alloc", "phi.ints":
		return api.TypeInts
	}
	return api.TypeInt
}

func constant(text string) (typ, imm int) {
	switch text {
	case "nil":
		return api.TypeInts, 0
	case "false":
		return api.TypeBool, 0
	case "true":
		return api.TypeBool, 1
	}
	return api.TypeInt, number(text)
}

func number(text string) int {
	n, err := strconv.Atoi(text)
	if err != nil {
		panic("no number: " + text)
	}
	return n
}

// term is the end of a block, whose Value has the number that its name stands for.
func term(words []string, numberOf func(name string) int) api.Term {
	switch {
	case words[0] == "jump":
		return api.Term{Kind: api.TermJump, Value: -1, To: []int{number(words[1])}}
	case words[0] == "branch":
		return api.Term{Kind: api.TermBranch, Value: numberOf(words[1]), To: []int{number(words[2]), number(words[3])}}
	case words[0] == "panic":
		return api.Term{Kind: api.TermPanic, Value: numberOf(words[1])}
	case words[0] != "return":
		panic("no end of a block: " + words[0])
	case len(words) == 2:
		return api.Term{Kind: api.TermReturn, Value: numberOf(words[1])}
	}
	return api.Term{Kind: api.TermReturn, Value: -1}
}

// setPreds sets Preds as the Terms want them.
func setPreds(f *api.SFunc) {
	for b := range f.Blocks {
		f.Blocks[b].Preds = nil
	}
	for b, block := range f.Blocks {
		for _, to := range block.Term.To {
			f.Blocks[to].Preds = append(f.Blocks[to].Preds, b)
		}
	}
}
