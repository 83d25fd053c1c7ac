package build_test

import (
	"slices"
	"strconv"
	"strings"

	"quern/api"
)

// dice: numbers that look drawn, the same ones each time.
type dice uint64

func (d *dice) below(n int) int {
	*d ^= *d << 13
	*d ^= *d >> 7
	*d ^= *d << 17
	return int(uint64(*d) >> 11 % uint64(n))
}

// The forms from which texts are drawn. Behind a $ stand: i, b, l for values (an int, a bool, a []int other than the
// word nil); n for a []int or nil, x for an index, r for what a return has; I, B, L for variables of these types; k for
// a call, v for a declaration, e for an if; s for the statements of a block, f for those of a loop, c for a counter's
// condition with its loop, g for statements of a loop that it may leave behind them, t for statements that end.
var (
	statementForms = []string{"$v", "$v", "$v", "$I = $i;", "$I = $i;", "$I = $I;", "$B = $b;", "$B = $b;", "$L = $n;", "$L[$x] = $i;", "$L[$x] = $i;",
		"print($i);", "print($i);", "print($b);", "print($b);", "$k;", "if $b {$s}", "if $b {$s}", "if $b {$s} else {$s}", "$e",
		"for $c", "for $c", "for $b {$f}", "for {$g}", "for {$g}", "for {$f}", "{$s}", "return$r;", "panic($i);", "break;", "break;", "continue;", "continue;"}
	flowForms = []string{"$v", "$I = $I;", "$I = $I;", "$I = $I + 1;", "$I = $i;", "$B = $B;", "$B = !$B;", "$B = $b;", "print($I);", "print($I);", "print($B);",
		"if $b {$s}", "if $b {$s}", "if $B {$s} else {$s}", "$e", "for $c", "for $b {$f}", "for {$g}", "{$s}", "if $B { break; }", "if $B { continue; }", "if $b { return$r; }", "break;", "continue;"}
	ifForms    = []string{"if $b {$s}", "if $b {$s} else {$s}", "if $b {$s} else $e", "if $b {$t} else $e", "if $b {$s} else {$t}"}
	endForms   = []string{"return$r;", "return$r;", "return$r;", "panic($i);", "{$t}", "if $b {$t} else {$t}", "for {$s}"}
	valueForms = map[byte][]string{
		'i': {"$I", "$I", "$I", "$I", "0", "1", "7", "9223372036854775807", "input()", "len($l)", "$l[$x]", "-($i)", "^($i)", "($i) + ($i)", "($i) - ($i)", "($i) * ($i)",
			"($i) / ($i)", "($i) % (($i) | 4)", "($i) & ($i)", "($i) | ($i)", "($i) ^ ($i)", "($i) &^ ($i)", "($i) << (($i) & 9)", "($i) >> ($i)", "$k"},
		'b': {"$B", "$B", "$B", "true", "false", "!($b)", "($b) && ($b)", "($b) && ($b)", "($b) || ($b)", "($b) || ($b)", "($b) == ($b)", "($b) != ($b)",
			"$l == nil", "nil != $l", "($i) == ($i)", "($i) != ($i)", "($i) < ($i)", "($i) <= ($i)", "($i) > ($i)", "($i) >= ($i)", "$k"},
		'l': {"$L", "$L", "$L", "make([]int, 3)", "make([]int, 4)", "make([]int, ($i) & 7)", "make([]int, $i)", "$k"},
	}
	leafForms = map[byte][]string{
		'i': {"$I", "$I", "$I", "2", "3", "input()"},
		'b': {"$B", "$B", "$B", "true", "false"},
		'l': {"$L", "$L", "make([]int, 5)"},
	}
)

type variable struct {
	name string
	typ  int
}

type signature struct {
	name   string
	params []variable
	result int
}

// writer writes the text of a program.
type writer struct {
	*dice
	strings.Builder
	flow   bool // few operations, many ways
	left   int  // statements
	deep   int  // forms that are open
	funcs  []signature
	scopes [][]variable
	loops  int
	result int
}

func drawnText(d *dice, size int, flow bool) string {
	w := &writer{dice: d, flow: flow}
	for i := range d.below(3) {
		f := signature{name: "f" + strconv.Itoa(i), result: d.below(4)}
		for k := range d.below(4) {
			f.params = append(f.params, variable{"v" + strconv.Itoa(k), 1 + d.below(3)})
		}
		w.funcs = append(w.funcs, f)
	}
	w.funcs = slices.Insert(w.funcs, d.below(len(w.funcs)+1), signature{name: "main"})
	for _, f := range w.funcs {
		w.left = size
		w.function(f)
	}
	return w.String()
}

func (w *writer) function(f signature) {
	w.WriteString("func " + f.name + "(")
	for i, p := range f.params {
		if i > 0 {
			w.WriteString(", ")
		}
		w.WriteString(p.name + typeNames[p.typ])
	}
	w.WriteString(")" + typeNames[f.result] + " {")
	w.scopes, w.loops, w.result = [][]variable{f.params}, 0, f.result
	for range w.below(5) {
		w.declare()
	}
	for range 1 + w.below(3) {
		w.statements()
	}
	for _, v := range w.known() { // what is asked here comes from far
		if w.flow && v.typ != api.TypeInts && w.below(2) == 0 {
			w.WriteString("print(" + v.name + ");")
		}
	}
	if f.result != api.TypeNone {
		w.draw(endForms, 0)
	}
	w.WriteString("}\n")
}

// draw writes one of the forms, the first drawn one that has all that it names. Where a call is wanted, it is one with that result; below 0: with any.
func (w *writer) draw(forms []string, result int) {
	w.deep++
	defer func() { w.deep-- }()
	form := ""
	for form == "" {
		form = forms[w.below(len(forms))]
		for i, letter := range []byte(form) {
			if i > 0 && form[i-1] == '$' && !w.has(letter, result) {
				form = ""
				break
			}
		}
		if w.loops == 0 && (strings.Contains(form, "break;") || strings.Contains(form, "continue;")) {
			form = ""
		}
	}
	for {
		text, rest, more := strings.Cut(form, "$")
		w.WriteString(text)
		if !more {
			return
		}
		w.part(rest[0], result)
		form = rest[1:]
	}
}

func (w *writer) has(letter byte, result int) bool {
	switch letter {
	case 'I', 'B', 'L':
		return len(w.variables(letter)) > 0
	case 'c':
		return len(w.variables('I')) > 0
	case 'k':
		return len(w.functions(result)) > 0
	}
	return true
}

func (w *writer) part(letter byte, result int) {
	switch letter {
	case 'i', 'b', 'l':
		w.value(letter)
	case 'n':
		w.declared(api.TypeInts)
	case 'x':
		w.draw([]string{"0", "1", "2", "3", "($i) & 3", "$i"}, api.TypeInt)
	case 'r':
		if w.result != api.TypeNone {
			w.WriteString(" ")
			w.declared(w.result)
		}
	case 'I', 'B', 'L':
		w.WriteString(w.oneOf(w.variables(letter)))
	case 'k':
		w.call(w.functions(result))
	case 'v':
		w.declare()
	case 'e':
		w.draw(ifForms, 0)
	case 's', 't':
		w.inside(letter)
	default:
		w.loops++
		w.inside(letter)
		w.loops--
	}
}

func (w *writer) oneOf(names []string) string { return names[w.below(len(names))] }

// inside writes what stands within a block; of a counter's loop also what stands ahead of it.
func (w *writer) inside(letter byte) {
	if letter == 'c' {
		counter := w.oneOf(w.variables('I'))
		w.WriteString(counter + " < " + strconv.Itoa(w.below(6)) + " {" + counter + " = " + counter + " + 1; ")
		defer w.WriteString("}")
	}
	w.scopes = append(w.scopes, nil)
	w.statements()
	switch letter {
	case 'g':
		w.draw([]string{"if $b { break; }", "if $b { continue; }", "if $b { break; } else { continue; }"}, 0)
	case 't':
		w.draw(endForms, 0)
	}
	w.scopes = w.scopes[:len(w.scopes)-1]
}

func (w *writer) statements() {
	for w.left > 0 && w.below(7) > 0 {
		w.left--
		if w.flow {
			w.draw(flowForms, -1)
		} else {
			w.draw(statementForms, -1)
		}
	}
}

func (w *writer) value(letter byte) {
	typ := strings.IndexByte("-ibl", letter)
	if w.deep > 8 || w.below(2) == 0 || w.flow && w.below(3) > 0 {
		w.draw(leafForms[letter], typ)
	} else {
		w.draw(valueForms[letter], typ)
	}
}

// declared writes a value where the type is declared: there nil may stand.
func (w *writer) declared(typ int) {
	if typ == api.TypeInts && w.below(4) == 0 {
		w.WriteString("nil")
		return
	}
	w.value("-ibl"[typ])
}

// declare writes a declaration of a name that the innermost scope doesn't have; it may hide a variable or a function.
func (w *writer) declare() {
	inner := &w.scopes[len(w.scopes)-1]
	v := variable{typ: 1 + w.below(3)}
	for v.name == "" || slices.ContainsFunc(*inner, func(u variable) bool { return u.name == v.name }) {
		v.name = "v" + strconv.Itoa(w.below(4+len(*inner)))
		if w.below(16) == 0 {
			v.name = w.funcs[w.below(len(w.funcs))].name
		}
	}
	w.WriteString("var " + v.name + typeNames[v.typ])
	if w.below(4) > 0 {
		w.WriteString(" = ")
		w.declared(v.typ)
	}
	w.WriteString(";")
	*inner = append(*inner, v)
}

// known are the variables that no other one hides.
func (w *writer) known() []variable {
	var all []variable
	for i := len(w.scopes) - 1; i >= 0; i-- {
		for _, v := range w.scopes[i] {
			if !slices.ContainsFunc(all, func(u variable) bool { return u.name == v.name }) {
				all = append(all, v)
			}
		}
	}
	return all
}

func (w *writer) variables(letter byte) (names []string) {
	for _, v := range w.known() {
		if v.typ == strings.IndexByte("-IBL", letter) {
			names = append(names, v.name)
		}
	}
	return names
}

// functions are those that no variable hides, with that result; below 0: with any.
func (w *writer) functions(result int) (list []signature) {
	known := w.known()
	for _, f := range w.funcs {
		hidden := slices.ContainsFunc(known, func(v variable) bool { return v.name == f.name })
		if !hidden && (result < 0 || f.result == result) {
			list = append(list, f)
		}
	}
	return list
}

func (w *writer) call(list []signature) {
	f := list[w.below(len(list))]
	w.WriteString(f.name + "(")
	for i, p := range f.params {
		if i > 0 {
			w.WriteString(", ")
		}
		w.declared(p.typ)
	}
	w.WriteString(")")
}
