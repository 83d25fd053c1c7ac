package sem_test

import (
	"slices"
	"strconv"
	"strings"
	"testing"

	"quern/api"
	"quern/sem"
)

// dice draws numbers, the same ones in every run.
type dice uint64

func (d *dice) below(n int) int {
	*d ^= *d << 13
	*d ^= *d >> 7
	*d ^= *d << 17
	return int(uint64(*d) >> 1 % uint64(n))
}

type variable struct {
	name string
	typ  int
}

type function struct {
	name   string
	params []variable
	result int
}

// writer writes the text of a program, most of whose runs get far.
type writer struct {
	*dice
	strings.Builder
	left   int // statements
	depth  int // of expressions
	funcs  []function
	scopes [][]variable
	loops  int
	result int
}

func drawnText(d *dice, size int) string {
	w := &writer{dice: d, left: size}
	for i := range d.below(4) {
		f := function{name: "f" + strconv.Itoa(i), result: d.below(4)}
		for k := range d.below(4) {
			f.params = append(f.params, variable{"v" + strconv.Itoa(k), 1 + d.below(3)})
		}
		w.funcs = append(w.funcs, f)
	}
	w.funcs = slices.Insert(w.funcs, d.below(len(w.funcs)+1), function{name: "main"})
	for _, f := range w.funcs {
		w.function(f)
	}
	return w.String()
}

func (w *writer) put(parts ...string) {
	for _, p := range parts {
		w.WriteString(p)
	}
}

func typeText(typ int) string { return []string{"", "int", "bool", "[]int"}[typ] }

func (w *writer) function(f function) {
	w.put("func ", f.name, "(")
	for i, p := range f.params {
		if i > 0 {
			w.put(", ")
		}
		w.put(p.name, " ", typeText(p.typ))
	}
	w.put(") ", typeText(f.result), " {")
	w.scopes, w.result, w.loops = [][]variable{f.params}, f.result, 0
	w.left += 3
	w.statements()
	if f.result != 0 {
		w.returns()
	}
	w.put("}\n")
}

func (w *writer) returns() {
	w.put("return ")
	if w.result != 0 {
		w.value(w.result)
	}
	w.put(";")
}

func (w *writer) statements() {
	for w.left > 0 && w.below(6) > 0 {
		w.left--
		w.statement()
	}
}

func (w *writer) block(inside func()) {
	w.put(" {")
	w.scopes = append(w.scopes, nil)
	inside()
	w.scopes = w.scopes[:len(w.scopes)-1]
	w.put("} ")
}

// fresh is a name that the innermost scope doesn't have; it may hide a variable or a function.
func (w *writer) fresh() string {
	inner := w.scopes[len(w.scopes)-1]
	for {
		name := "v" + strconv.Itoa(w.below(4+len(inner)))
		if w.below(12) == 0 {
			name = w.funcs[w.below(len(w.funcs))].name
		}
		if !slices.ContainsFunc(inner, func(v variable) bool { return v.name == name }) {
			return name
		}
	}
}

func (w *writer) declare() {
	v := variable{w.fresh(), 1 + w.below(3)}
	w.put("var ", v.name, " ", typeText(v.typ))
	if w.below(4) > 0 {
		w.put(" = ")
		w.value(v.typ)
	}
	w.put(";")
	w.scopes[len(w.scopes)-1] = append(w.scopes[len(w.scopes)-1], v)
}

// known are the variables that no other one hides.
func (w *writer) known() []variable {
	var all []variable
	for i := len(w.scopes) - 1; i >= 0; i-- {
		for _, v := range w.scopes[i] {
			if !slices.ContainsFunc(all, func(u variable) bool { return u.name == v.name }) {
				all = append(all, v)
			}
		}
	}
	return all
}

func (w *writer) variable(typ int) (string, bool) {
	fit := slices.DeleteFunc(w.known(), func(v variable) bool { return v.typ != typ })
	if len(fit) == 0 {
		return "", false
	}
	return fit[w.below(len(fit))].name, true
}

// call writes one of a function with the result, if one is known; any result, if it is below 0.
func (w *writer) call(result int) bool {
	known := w.known()
	fit := slices.DeleteFunc(slices.Clone(w.funcs), func(f function) bool {
		hidden := slices.ContainsFunc(known, func(v variable) bool { return v.name == f.name })
		return hidden || result >= 0 && f.result != result
	})
	if len(fit) == 0 {
		return false
	}
	f := fit[w.below(len(fit))]
	w.put(f.name, "(")
	for i, p := range f.params {
		if i > 0 {
			w.put(", ")
		}
		w.value(p.typ)
	}
	w.put(")")
	return true
}

func (w *writer) statement() {
	switch w.below(16) {
	case 0, 1, 2:
		w.declare()
	case 3, 4:
		w.assign(1 + w.below(3))
	case 5, 6:
		w.assignAt()
	case 7:
		if w.call(-1) {
			w.put(";")
		}
	case 8, 9, 10:
		w.put("print(")
		w.value(1 + w.below(2))
		w.put(");")
	case 11:
		w.rare()
	case 12:
		w.choice()
	case 13, 14:
		w.loop()
	case 15:
		w.block(w.statements)
	}
}

// rare writes what ends something.
func (w *writer) rare() {
	switch form := w.below(12); {
	case form == 0:
		w.put("panic(")
		w.value(api.TypeInt)
		w.put(");")
	case form < 3:
		w.returns()
	case form < 7 && w.loops > 0:
		w.put("break;")
	case w.loops > 0:
		w.put("continue;")
	}
}

func (w *writer) assign(typ int) {
	if name, ok := w.variable(typ); ok {
		w.put(name, " = ")
		w.value(typ)
		w.put(";")
	}
}

func (w *writer) assignAt() {
	if name, ok := w.variable(api.TypeInts); ok {
		w.put(name, "[")
		w.index()
		w.put("] = ")
		w.value(api.TypeInt)
		w.put(";")
	}
}

func (w *writer) choice() {
	w.put("if ")
	w.value(api.TypeBool)
	w.block(w.statements)
	switch w.below(3) {
	case 0:
		w.put("else")
		w.block(w.statements)
	case 1:
		w.put("else ")
		w.choice()
	}
}

func (w *writer) loop() {
	w.loops++
	defer func() { w.loops-- }()
	counter, ok := w.variable(api.TypeInt)
	w.put("for ")
	if ok && w.below(4) > 0 {
		w.put(counter, " < ", strconv.Itoa(w.below(6)))
		w.block(func() {
			w.put(counter, " = ", counter, " + 1;")
			w.statements()
		})
		return
	}
	if w.below(3) > 0 {
		w.value(api.TypeBool)
	}
	w.block(func() {
		w.statements()
		w.put("if ")
		w.value(api.TypeBool)
		w.put(" { break; }")
	})
}

// index is mostly one of a short array.
func (w *writer) index() {
	if w.below(3) > 0 {
		w.put(strconv.Itoa(w.below(3)))
		return
	}
	w.value(api.TypeInt)
	if w.below(4) > 0 {
		w.put(" & 3")
	}
}

func (w *writer) value(typ int) {
	w.depth++
	defer func() { w.depth-- }()
	if w.depth > 4 || w.below(4) == 0 {
		w.leaf(typ)
		return
	}
	if w.below(8) == 0 && w.call(typ) {
		return
	}
	switch typ {
	case api.TypeInt:
		w.number()
	case api.TypeBool:
		w.truth()
	case api.TypeInts:
		w.leaf(typ)
	}
}

func (w *writer) leaf(typ int) {
	if name, ok := w.variable(typ); ok && w.below(4) > 0 {
		w.put(name)
		return
	}
	switch typ {
	case api.TypeInt:
		if w.below(8) == 0 {
			w.put("input()")
			return
		}
		w.put([]string{"0", "1", "2", "3", "7", "63", "64", "9223372036854775807"}[w.below(8)])
	case api.TypeBool:
		w.put([]string{"true", "false"}[w.below(2)])
	case api.TypeInts:
		if w.below(6) == 0 {
			w.put("(nil)")
			return
		}
		w.put("make([]int, ")
		w.put([]string{"3", "3", "4", "4", "5", "9223372036854775807", "4611686018427387903", "0 - 1"}[w.below(8)])
		w.put(")")
	}
}

// operand is a value in parentheses, so that any sign can stand around it.
func (w *writer) operand(typ int) {
	w.put("(")
	w.value(typ)
	w.put(")")
}

func (w *writer) list() {
	if name, ok := w.variable(api.TypeInts); ok {
		w.put(name)
		return
	}
	w.put("make([]int, 3)")
}

func (w *writer) number() {
	signs := []string{"+", "-", "*", "/", "%", "&", "|", "^", "&^", "<<", ">>"}
	switch w.below(8) {
	case 0:
		w.put([]string{"-", "^"}[w.below(2)])
		w.operand(api.TypeInt)
	case 1:
		w.put("len(")
		w.list()
		w.put(")")
	case 2:
		w.list()
		w.put("[")
		w.index()
		w.put("]")
	default:
		sign := signs[w.below(len(signs))]
		w.operand(api.TypeInt)
		w.put(" ", sign, " ")
		w.operand(api.TypeInt)
		switch {
		case w.below(4) == 0:
		case sign == "/", sign == "%":
			w.put(" + 5")
		case sign == "<<", sign == ">>":
			w.put(" & 63")
		}
	}
}

func (w *writer) truth() {
	switch w.below(6) {
	case 0:
		w.put("!")
		w.operand(api.TypeBool)
	case 1, 2:
		w.operand(api.TypeBool)
		w.put([]string{" && ", " || ", " == ", " != "}[w.below(4)])
		w.operand(api.TypeBool)
	case 3:
		w.list()
		w.put([]string{" == ", " != "}[w.below(2)], "nil")
	default:
		w.operand(api.TypeInt)
		w.put([]string{" == ", " != ", " < ", " <= ", " > ", " >= "}[w.below(6)])
		w.operand(api.TypeInt)
	}
}

func (d *dice) numbers() []int {
	list := make([]int, d.below(8))
	for i := range list {
		list[i] = d.below(9) - 4
	}
	return list
}

func momentOf(o api.Outcome) moment {
	return moment{o.End, o.Kind, o.Value, o.Words, o.Depth, len(o.Events)}
}

// holdSteps makes the oracle's steps one by one, and one more.
func holdSteps(t *testing.T, m *sem.Machine, o *oracle) {
	t.Helper()
	for i, want := range o.trace {
		if !m.Step() {
			t.Fatalf("the step %d was not made", i+1)
		}
		if got := m.Outcome(); momentOf(got) != want || got.Steps != i+1 {
			t.Fatalf("behind the step %d: %+v, want %+v", i+1, got, want)
		}
	}
	if o.told.End != api.Running && m.Step() {
		t.Fatalf("a step behind the end")
	}
	holdOutcome(t, m.Outcome(), o.told)
}

func holdOutcome(t *testing.T, got, want api.Outcome) {
	t.Helper()
	if momentOf(got) != momentOf(want) || got.Steps != want.Steps || !slices.Equal(got.Events, want.Events) {
		t.Fatalf("%+v, want %+v", got, want)
	}
}

// holdPieces runs with drawn fuels up to the oracle's limit.
func holdPieces(t *testing.T, m *sem.Machine, o *oracle, d *dice) {
	t.Helper()
	for left := o.limit; left > 0; {
		fuel := min(left, d.below(40))
		left -= fuel
		got, err := m.Run(fuel)
		if err != api.OK || got.Steps != min(o.limit-left, o.told.Steps) {
			t.Fatalf("Run(%d): %+v %v", fuel, got, err)
		}
		if got.Steps > 0 && momentOf(got) != o.trace[got.Steps-1] || !slices.Equal(got.Events, o.told.Events[:len(got.Events)]) {
			t.Fatalf("at %d steps: %+v, want %+v", got.Steps, got, o.trace[got.Steps-1])
		}
	}
	holdOutcome(t, m.Outcome(), o.told)
}

// scattered is a tree with other places, which mean nothing to a run.
func (d *dice) scattered(t api.Tree) api.Tree {
	s := copyOf(t)
	for i := range s.Nodes {
		n := &s.Nodes[i]
		n.At = d.below(100) - 50
		if n.Where != 0 {
			n.Where = d.below(100) - 50
		}
		if n.Close != 0 {
			n.Close = -n.Close
		}
	}
	return s
}

func TestDrawnPrograms(t *testing.T) {
	d := dice(0x9e3779b97f4a7c15)
	ends, kinds, panics, deep := map[int]int{}, map[int]int{}, map[int]int{}, 0
	for range 4000 {
		text := drawnText(&d, 4+d.below(30))
		x := read(t, text)
		input := d.numbers()
		o := watch(x, input, 1500)
		one, pieces, other := start(t, x, input), start(t, x, input), start(t, d.scattered(x), input)
		ok := t.Run("", func(t *testing.T) {
			holdSteps(t, one, o)
			holdPieces(t, pieces, o, &d)
			got, _ := other.Run(o.limit)
			holdOutcome(t, got, o.told)
		})
		if !ok {
			t.Fatalf("%s\ninput %v", text, input)
		}
		ends[o.told.End]++
		panics[o.told.Kind]++
		if o.told.Depth > 2 {
			deep++
		}
		for kind, count := range o.kinds {
			kinds[kind] += count
		}
	}
	t.Logf("ends %v, panics %v, deep %d, kinds %v", ends, panics, deep, kinds)
	for _, end := range []int{api.Running, api.Exit, api.Panic} {
		if ends[end] < 100 {
			t.Errorf("only %d runs ended with %d: the draw is of one sort", ends[end], end)
		}
	}
	for kind := api.PanicDivide; kind <= api.PanicUser; kind++ {
		if panics[kind] < 10 {
			t.Errorf("only %d runs ended with the panic %d: the draw is of one sort", panics[kind], kind)
		}
	}
	for kind := api.NodeBlock; kind <= api.NodeBinary; kind++ {
		if (kind <= api.NodeContinue || kind >= api.NodeNum) && kinds[kind] < 100 {
			t.Errorf("only %d nodes of the kind %d: the draw is of one sort", kinds[kind], kind)
		}
	}
}

// TestDrawnTurns lets runs of several programs take turns.
func TestDrawnTurns(t *testing.T) {
	d := dice(0x2545f4914f6cdd1d)
	for range 60 {
		var oracles []*oracle
		var machines []*sem.Machine
		for range 4 {
			x := read(t, drawnText(&d, 20))
			input := d.numbers()
			for range 2 {
				oracles = append(oracles, watch(x, input, 400))
				machines = append(machines, start(t, x, input))
			}
		}
		for range 4000 {
			machines[d.below(len(machines))].Run(d.below(3))
		}
		for i, m := range machines {
			o := m.Outcome()
			steps := min(o.Steps, 400)
			if steps > 0 && o.Steps <= 400 && momentOf(o) != oracles[i].trace[steps-1] {
				t.Fatalf("%+v, want %+v", o, oracles[i].trace[steps-1])
			}
			if n := len(oracles[i].told.Events); o.Steps >= 400 && !slices.Equal(o.Events[:n], oracles[i].told.Events) {
				t.Fatalf("other events in turns")
			}
		}
	}
}
