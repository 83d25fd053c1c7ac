package sample

import (
	"slices"
	"strconv"
	"strings"

	"quern/api"
)

// goTypes: the types as MiniGo has them.
var goTypes = []string{"", " int", " bool", " []int"}

type variable struct {
	name string
	typ  int
}

type signature struct {
	name   string
	params []variable
	result int
}

// writer writes the text of a program.
type writer struct {
	*Dice
	strings.Builder
	flow   bool // few operations, many ways
	left   int  // statements
	deep   int  // forms that are open
	funcs  []signature
	scopes [][]variable
	loops  int
	result int
}

// DrawText draws the text of a program of MiniGo, up to that many statements a function; with flow: of few operations and many ways.
func DrawText(d *Dice, size int, flow bool) string {
	w := &writer{Dice: d, flow: flow}
	for i := range d.Below(3) {
		f := signature{name: "f" + strconv.Itoa(i), result: d.Below(4)}
		for k := range d.Below(4) {
			f.params = append(f.params, variable{"v" + strconv.Itoa(k), 1 + d.Below(3)})
		}
		w.funcs = append(w.funcs, f)
	}
	w.funcs = slices.Insert(w.funcs, d.Below(len(w.funcs)+1), signature{name: "main"})
	for _, f := range w.funcs {
		w.left = size
		w.function(f)
	}
	return w.String()
}

func (w *writer) function(f signature) {
	w.WriteString("func " + f.name + "(")
	for i, p := range f.params {
		if i > 0 {
			w.WriteString(", ")
		}
		w.WriteString(p.name + goTypes[p.typ])
	}
	w.WriteString(")" + goTypes[f.result] + " {")
	w.scopes, w.loops, w.result = [][]variable{f.params}, 0, f.result
	for range w.Below(5) {
		w.declare()
	}
	for range 1 + w.Below(3) {
		w.statements()
	}
	for _, v := range w.known() { // what is asked here comes from far
		if w.flow && v.typ != api.TypeInts && w.Below(2) == 0 {
			w.WriteString("print(" + v.name + ");")
		}
	}
	if f.result != api.TypeNone {
		w.draw(endForms(), 0)
	}
	w.WriteString("}\n")
}

// draw writes one of the forms, the first drawn one that has all that it names. Where a call is wanted, it is one with that result; below 0: with any.
func (w *writer) draw(forms []string, result int) {
	w.deep++
	defer func() { w.deep-- }()
	form := ""
	for form == "" {
		form = forms[w.Below(len(forms))]
		for i, letter := range []byte(form) {
			if i > 0 && form[i-1] == '$' && !w.has(letter, result) {
				form = ""
				break
			}
		}
		if w.loops == 0 && (strings.Contains(form, "break;") || strings.Contains(form, "continue;")) {
			form = ""
		}
	}
	for {
		text, rest, more := strings.Cut(form, "$")
		w.WriteString(text)
		if !more {
			return
		}
		w.part(rest[0], result)
		form = rest[1:]
	}
}

func (w *writer) has(letter byte, result int) bool {
	switch letter {
	case 'I', 'B', 'L':
		return len(w.variables(letter)) > 0
	case 'c':
		return len(w.variables('I')) > 0
	case 'k':
		return len(w.functions(result)) > 0
	}
	return true
}

func (w *writer) part(letter byte, result int) {
	switch letter {
	case 'i', 'b', 'l':
		w.value(letter)
	case 'n':
		w.declared(api.TypeInts)
	case 'x':
		w.draw([]string{"0", "1", "2", "3", "($i) & 3", "$i"}, api.TypeInt)
	case 'r':
		if w.result != api.TypeNone {
			w.WriteString(" ")
			w.declared(w.result)
		}
	case 'I', 'B', 'L':
		w.WriteString(w.oneOf(w.variables(letter)))
	case 'k':
		w.call(w.functions(result))
	case 'v':
		w.declare()
	case 'e':
		w.draw(ifForms(), 0)
	case 's', 't':
		w.inside(letter)
	default:
		w.loops++
		w.inside(letter)
		w.loops--
	}
}

func (w *writer) oneOf(names []string) string { return names[w.Below(len(names))] }

// inside writes what stands within a block; of a counter's loop also what stands ahead of it.
func (w *writer) inside(letter byte) {
	if letter == 'c' {
		counter := w.oneOf(w.variables('I'))
		w.WriteString(counter + " < " + strconv.Itoa(w.Below(6)) + " {" + counter + " = " + counter + " + 1; ")
		defer w.WriteString("}")
	}
	w.scopes = append(w.scopes, nil)
	w.statements()
	switch letter {
	case 'g':
		w.draw([]string{"if $b { break; }", "if $b { continue; }", "if $b { break; } else { continue; }"}, 0)
	case 't':
		w.draw(endForms(), 0)
	}
	w.scopes = w.scopes[:len(w.scopes)-1]
}

func (w *writer) statements() {
	for w.left > 0 && w.Below(7) > 0 {
		w.left--
		if w.flow {
			w.draw(flowForms(), -1)
		} else {
			w.draw(statementForms(), -1)
		}
	}
}

func (w *writer) value(letter byte) {
	typ := strings.IndexByte("-ibl", letter)
	if w.deep > 8 || w.Below(2) == 0 || w.flow && w.Below(3) > 0 {
		w.draw(leafForms(letter), typ)
	} else {
		w.draw(valueForms(letter), typ)
	}
}

// declared writes a value where the type is declared: there nil may stand.
func (w *writer) declared(typ int) {
	if typ == api.TypeInts && w.Below(4) == 0 {
		w.WriteString("nil")
		return
	}
	w.value("-ibl"[typ])
}

// declare writes a declaration of a name that the innermost scope doesn't have; it may hide a variable or a function.
func (w *writer) declare() {
	inner := &w.scopes[len(w.scopes)-1]
	v := variable{typ: 1 + w.Below(3)}
	for v.name == "" || slices.ContainsFunc(*inner, func(u variable) bool { return u.name == v.name }) {
		v.name = "v" + strconv.Itoa(w.Below(4+len(*inner)))
		if w.Below(16) == 0 {
			v.name = w.funcs[w.Below(len(w.funcs))].name
		}
	}
	w.WriteString("var " + v.name + goTypes[v.typ])
	if w.Below(4) > 0 {
		w.WriteString(" = ")
		w.declared(v.typ)
	}
	w.WriteString(";")
	*inner = append(*inner, v)
}

// known are the variables that no other one hides.
func (w *writer) known() []variable {
	var all []variable
	for i := len(w.scopes) - 1; i >= 0; i-- {
		for _, v := range w.scopes[i] {
			if !slices.ContainsFunc(all, func(u variable) bool { return u.name == v.name }) {
				all = append(all, v)
			}
		}
	}
	return all
}

func (w *writer) variables(letter byte) (names []string) {
	for _, v := range w.known() {
		if v.typ == strings.IndexByte("-IBL", letter) {
			names = append(names, v.name)
		}
	}
	return names
}

// functions are those that no variable hides, with that result; below 0: with any.
func (w *writer) functions(result int) (list []signature) {
	known := w.known()
	for _, f := range w.funcs {
		hidden := slices.ContainsFunc(known, func(v variable) bool { return v.name == f.name })
		if !hidden && (result < 0 || f.result == result) {
			list = append(list, f)
		}
	}
	return list
}

func (w *writer) call(list []signature) {
	f := list[w.Below(len(list))]
	w.WriteString(f.name + "(")
	for i, p := range f.params {
		if i > 0 {
			w.WriteString(", ")
		}
		w.declared(p.typ)
	}
	w.WriteString(")")
}
