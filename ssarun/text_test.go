package ssarun_test

import (
	"slices"
	"strconv"
	"strings"
	"testing"

	"quern/api"
)

// The tests write SSA as texts, a line for each function and each block:
//
//	f(a int, b bool) int
//	0: c const 3; d add a c; jump 1
//	1: e phi.int d f; f neg e; branch b 1 2
//	2: return e
//
// A value has a name where it has a Type. Of a const behind `const` stands its number, `true`, `false` or `nil`; of a
// trap, ahead of its Args, the kind; of a call the function's name. The values' numbers are the places in the text.

var opNames = map[string]int{
	"const": api.InsConst, "add": api.InsAdd, "sub": api.InsSub, "mul": api.InsMul, "div": api.InsDiv, "rem": api.InsRem,
	"and": api.InsAnd, "or": api.InsOr, "xor": api.InsXor, "bic": api.InsBic, "shl": api.InsShl, "shr": api.InsShr,
	"eq": api.InsEq, "ne": api.InsNe, "lt": api.InsLt, "le": api.InsLe, "neg": api.InsNeg, "inv": api.InsInv,
	"not": api.InsNot, "len": api.InsLen, "load": api.InsLoad, "store": api.InsStore, "alloc": api.InsAlloc,
	"input": api.InsInput, "call": api.InsCall, "print": api.InsPrintInt, "printbool": api.InsPrintBool,
	"trapzero": api.InsTrapZero, "trapneg": api.InsTrapNeg, "trapbound": api.InsTrapBound,
	"phi.int": api.InsPhi, "phi.bool": api.InsPhi, "phi.ints": api.InsPhi,
}

var typeNames = map[string]int{"": api.TypeNone, "int": api.TypeInt, "bool": api.TypeBool, "ints": api.TypeInts}

// typeOf is the Type that an Op's name tells; a const's and a call's are asked apart.
func typeOf(op string) int {
	switch op {
	case "store", "print", "printbool", "trapzero", "trapneg", "trapbound":
		return api.TypeNone
	case "eq", "ne", "lt", "le", "not", "phi.bool":
		return api.TypeBool
	case "alloc", "phi.ints":
		return api.TypeInts
	}
	return api.TypeInt
}

// reader has a text's functions as they grow, and in the one that is read the numbers of its names.
type reader struct {
	t      testing.TB
	s      api.SSA
	values map[string]int
}

// program makes SSA of a text.
func program(t testing.TB, text string) api.SSA {
	t.Helper()
	r := &reader{t: t}
	lines := slices.DeleteFunc(strings.Split(text, "\n"), func(l string) bool { return strings.TrimSpace(l) == "" })
	for _, l := range lines { // the functions, ahead of the calls of them
		if l = strings.TrimSpace(l); !strings.Contains(l, ":") {
			r.head(l)
		}
	}
	function := -1
	for i, l := range lines {
		if l = strings.TrimSpace(l); strings.Contains(l, ":") {
			r.block(&r.s.Funcs[function], l)
			continue
		}
		function++
		end := i + 1
		for end < len(lines) && strings.Contains(lines[end], ":") {
			end++
		}
		r.names(r.s.Funcs[function], l, lines[i+1:end])
	}
	for i := range r.s.Funcs {
		setPreds(&r.s.Funcs[i])
	}
	r.s.Main = slices.IndexFunc(r.s.Funcs, func(f api.SFunc) bool { return f.Name == "main" })
	return r.s
}

func (r *reader) head(line string) {
	name, rest, _ := strings.Cut(line, "(")
	params, result, _ := strings.Cut(rest, ")")
	f := api.SFunc{Name: name, Result: typeNames[strings.TrimSpace(result)]}
	for i, p := range strings.Split(params, ",") {
		if w := strings.Fields(p); len(w) == 2 {
			f.Params = append(f.Params, i)
			f.Values = append(f.Values, api.Value{Op: api.InsParam, Type: typeNames[w[1]], Imm: i})
		}
	}
	r.s.Funcs = append(r.s.Funcs, f)
}

// names gives a function's names their numbers.
func (r *reader) names(f api.SFunc, head string, blocks []string) {
	r.values = map[string]int{}
	_, rest, _ := strings.Cut(head, "(")
	params, _, _ := strings.Cut(rest, ")")
	for i, p := range strings.Split(params, ",") {
		if w := strings.Fields(p); len(w) == 2 {
			r.values[w[0]] = i
		}
	}
	next := len(f.Params)
	for _, l := range blocks {
		_, l, _ = strings.Cut(l, ":")
		parts := strings.Split(l, ";")
		for _, p := range parts[:len(parts)-1] {
			if w := strings.Fields(p); opNames[w[0]] == 0 {
				r.values[w[0]] = next
			}
			next++
		}
	}
}

func (r *reader) number(name string) int {
	v, ok := r.values[name]
	if !ok {
		r.t.Fatalf("no value %s", name)
	}
	return v
}

func (r *reader) block(f *api.SFunc, line string) {
	_, line, _ = strings.Cut(line, ":")
	parts := strings.Split(line, ";")
	var b api.Block
	for _, p := range parts[:len(parts)-1] {
		v := r.value(strings.Fields(p))
		if v.Op == api.InsPhi {
			b.Phis = append(b.Phis, len(f.Values))
		} else {
			b.Body = append(b.Body, len(f.Values))
		}
		f.Values = append(f.Values, v)
	}
	b.Term = r.term(strings.Fields(parts[len(parts)-1]))
	f.Blocks = append(f.Blocks, b)
}

func (r *reader) value(w []string) api.Value {
	if opNames[w[0]] == 0 {
		w = w[1:]
	}
	v := api.Value{Op: opNames[w[0]], Type: typeOf(w[0])}
	args := w[1:]
	switch v.Op {
	case 0:
		r.t.Fatalf("no operation: %v", w)
	case api.InsConst:
		v.Type, v.Imm = constant(args[0])
		args = nil
	case api.InsCall:
		v.Imm = slices.IndexFunc(r.s.Funcs, func(f api.SFunc) bool { return f.Name == args[0] })
		v.Type = r.s.Funcs[v.Imm].Result
		args = args[1:]
	case api.InsTrapZero, api.InsTrapNeg, api.InsTrapBound:
		v.Imm, _ = strconv.Atoi(args[0])
		args = args[1:]
	}
	for _, a := range args {
		v.Args = append(v.Args, r.number(a))
	}
	return v
}

func constant(text string) (typ, imm int) {
	switch text {
	case "nil":
		return api.TypeInts, 0
	case "false":
		return api.TypeBool, 0
	case "true":
		return api.TypeBool, 1
	}
	n, err := strconv.Atoi(text)
	if err != nil {
		panic(err)
	}
	return api.TypeInt, n
}

func (r *reader) term(w []string) api.Term {
	block := func(text string) int {
		n, _ := strconv.Atoi(text)
		return n
	}
	switch {
	case w[0] == "jump":
		return api.Term{Kind: api.TermJump, Value: -1, To: []int{block(w[1])}}
	case w[0] == "branch":
		return api.Term{Kind: api.TermBranch, Value: r.number(w[1]), To: []int{block(w[2]), block(w[3])}}
	case w[0] == "panic":
		return api.Term{Kind: api.TermPanic, Value: r.number(w[1])}
	case len(w) == 2:
		return api.Term{Kind: api.TermReturn, Value: r.number(w[1])}
	}
	return api.Term{Kind: api.TermReturn, Value: -1}
}

// setPreds sets Preds as the Terms want them.
func setPreds(f *api.SFunc) {
	for b := range f.Blocks {
		f.Blocks[b].Preds = nil
	}
	for b, block := range f.Blocks {
		for _, to := range block.Term.To {
			f.Blocks[to].Preds = append(f.Blocks[to].Preds, b)
		}
	}
}

// told is an outcome in words: its events; its ending; its steps, words and depth.
func told(o api.Outcome) string {
	var b strings.Builder
	for _, e := range o.Events {
		switch {
		case e.Kind == api.EventInt:
			b.WriteString(strconv.Itoa(e.Value))
		case e == api.Event{Kind: api.EventBool, Value: 0}:
			b.WriteString("false")
		case e == api.Event{Kind: api.EventBool, Value: 1}:
			b.WriteString("true")
		default:
			b.WriteString("?")
		}
		b.WriteString(" ")
	}
	b.WriteString(ending(o))
	for _, n := range []int{o.Steps, o.Words, o.Depth} {
		b.WriteString(" " + strconv.Itoa(n))
	}
	return b.String()
}

func ending(o api.Outcome) string {
	kind, value := " kind "+strconv.Itoa(o.Kind), " value "+strconv.Itoa(o.Value)
	switch {
	case o.End == api.Panic && o.Kind >= api.PanicDivide && o.Kind <= api.PanicHeap:
		kind = []string{"", " divide", " index", " shift", " make", " input", " user", " stack", " heap"}[o.Kind]
		if o.Kind == api.PanicUser {
			value = " " + strconv.Itoa(o.Value)
		} else if o.Value == 0 {
			value = ""
		}
	case o.End == api.Stuck && o.Value == 0 && o.Kind >= api.StuckBlock && o.Kind <= api.StuckShift:
		kind, value = []string{"", " block", " element", " zero", " shift"}[o.Kind], ""
	case (o.End == api.Running || o.End == api.Exit) && o.Kind == 0 && o.Value == 0:
		kind, value = "", ""
	}
	return []string{"running", "exit", "panic", "stuck"}[o.End] + kind + value
}
