package tower_test

import (
	"slices"
	"strconv"
	"strings"
	"testing"

	"quern/api"
	"quern/sample"
	"quern/tower"
)

// mixed is a tower that is one program's above a level, and another one's from it on: as both stand for themselves, it fails there or nowhere.
func mixed(above, own tower.Mixed, level int) tower.Mixed {
	m := own
	m.Tree, m.Program.Nodes = above.Tree, above.Program.Nodes
	if level > 1 {
		m.Built = above.Built
	}
	if level > 2 {
		m.Clean = above.Clean
	}
	if level > 3 {
		m.LIR = above.LIR
	}
	if level > 4 {
		m.ALIR = above.ALIR
	}
	return m
}

// padded is a text with a function behind it that nobody calls: dce takes much away of it, and LIR has more blocks of it, so that mixed towers have numbers as programs have them.
func padded(text string) string {
	return text + " func pad(b bool) { if b {} if b {} if b {} if b {} var p int = 1+1+1+1+1+1+1+1+1+1+1+1+1+1+1; }"
}

// sound tells whether the numbers are such as a program's: those of a mixed tower may be below 1.
func sound(m tower.Mixed) bool {
	for k, n := range table(m) {
		if k > 0 && (n[0] < 1 || n[1] < 1) {
			return false
		}
	}
	return true
}

// asked holds what Holds tells of a tower, against what is wanted, and against the oracle.
func asked(t testing.TB, what string, m tower.Mixed, s api.Script, want int) {
	t.Helper()
	if !sound(m) {
		t.Fatalf("%s: no numbers of a program: %v", what, table(m))
	}
	all, is := m.Holds(s)
	if by := failing(m, s); is != want || by != want || all != (want == 0) {
		t.Errorf("P2504: %s: fuel %d, %+v: %v, %d, by the oracle %d, want %d: %v\n%s", what, s.Fuel, s.Limits, all, is, by, want, table(m), told(m.Run(s)))
	}
}

var wide = api.Limits{Stack: 1000, Heap: 1000}

func at(fuel int) api.Script { return api.Script{Limits: wide, Fuel: fuel} }

// onlyAt is the level where it is so, else 0.
func onlyAt(level int, is bool) int {
	if is {
		return level
	}
	return 0
}

// TestP2504Unlike: two programs, of which both end, or one goes on without end.
func TestP2504Unlike(t *testing.T) {
	const endless = "func main() { for {} }"
	const heap = "func main() { var a []int = make([]int, 1 << 62); }" // a panic from SSA on
	for _, x := range []struct {
		what, above, own string
		fails            func(level int) bool
	}{
		{"the same", "func main() { print(1); }", "func main() { print(1); }", nil},
		{"by other ways the same", "func main() { print(1); print(true); panic(7); }", "func main() { var i int; for i < 1 { i = i + 1; } print(i); print(i == 1); panic(i + 6); }", nil},
		{"both without end", endless, endless, nil},
		{"another number", "func main() { print(1); }", "func main() { print(2); }", always},
		{"another one, without end", "func main() { print(1); for {} }", "func main() { print(2); for {} }", always},
		{"a bool", "func main() { print(1); }", "func main() { print(true); }", always},
		{"another order", "func main() { print(1); print(2); }", "func main() { print(2); print(1); }", always},
		{"more events", "func main() { print(1); }", "func main() { print(1); print(2); }", always},
		{"fewer events", "func main() { print(1); print(2); }", "func main() { print(1); }", always},
		{"more events, without end", "func main() { for {} }", "func main() { print(2); for {} }", always},
		{"fewer events, without end", "func main() { print(1); for {} }", endless, always},
		{"a panic", "func main() { print(1); }", "func main() { print(1); panic(0); }", always},
		{"no panic", "func main() { print(1); panic(0); }", "func main() { print(1); }", always},
		{"another panic's value", "func main() { panic(0); }", "func main() { panic(1); }", always},
		{"another panic's kind", "func main() { print(1 / 0); }", "func main() { print(1 << -1); }", always},
		{"an end", endless, "func main() {}", always},
		{"a panic's end", endless, "func main() { panic(1); }", always},
		{"no end", "func main() {}", endless, always},
		{"no panic's end", "func main() { panic(1); }", endless, always},
		{"more words", "func main() {}", "func main() { var a []int = make([]int, 0); }", always},
		{"fewer words", "func main() { var a []int = make([]int, 3); }", "func main() { var a []int = make([]int, 2); }", always},
		{"deeper", "func f() {} func main() { f(); f(); }", "func g() {} func f() { g(); } func main() { f(); }", always},
		{"not as deep", "func g() {} func f() { g(); } func main() { f(); }", "func f() {} func main() { f(); f(); }", always},
		{"words of runs without end", "func main() { var a []int = make([]int, 7); for {} }", endless, nil},
		{"depths of runs without end", "func f() {} func main() { f(); for {} }", "func f() {} func main() { for {} }", nil},
		{"no room for what goes on", endless, heap, nil},
		{"no room, but it ends", "func main() {}", heap, always},
		{"no room above, and none", heap, heap, nil},
		{"no room above, and no end: the tree has room, but for all words", heap, endless, nil},
		{"no room above, and an end", heap, "func main() {}", func(level int) bool { return level > 1 }},
		{"no room above, and another event", heap, "func main() { print(1); }", always},
		{"an event, and no room above", "func main() { print(1); var a []int = make([]int, 1 << 62); }", endless, func(level int) bool { return level > 1 }},
		{"all words", "func main() { var a []int = make([]int, 1 << 62 - 1); }", endless, nil},
		{"all words but one: more than R16 has", "func main() { var a []int = make([]int, 1 << 62 - 2); }", endless, func(level int) bool { return level < 5 }},
		{"one word more than R16 has", "func main() { var a []int = make([]int, 1 << 40); }", endless, func(level int) bool { return level < 5 }},
		{"all words that R16 has", "func main() { var a []int = make([]int, 1 << 40 - 1); }", endless, always},
	} {
		above, own := all(t, padded(x.above)), all(t, padded(x.own))
		for level := 1; level <= 5; level++ {
			asked(t, x.what, mixed(above, own, level), at(80), onlyAt(level, x.fails != nil && x.fails(level)))
		}
	}
}

func always(int) bool { return true }

// steps is how many a run at a level makes until it has ended, or has told so many events.
func steps(t testing.TB, m tower.Mixed, level, events int) int {
	t.Helper()
	run, why := start(m, level, nil, api.Limits{Stack: api.MaxStack, Heap: api.MaxHeap})
	if why != api.OK {
		t.Fatal(why)
	}
	n := 0
	for len(run.Outcome().Events) < events && run.Step() {
		n++
	}
	return n
}

// slow prints 7 behind so many turns of a loop, and so many steps more.
func slow(turns, more int, behind string) string {
	return "func main() { var i int; var x int; for i < " + strconv.Itoa(turns) + " { i = i + 1; } " + strings.Repeat("{} x = x + x; ", more) + "print(x + 7); " + behind + "}"
}

// TestP2504Edges: at each level (n + 1) * a steps, and (n + 1) * b, are just as many as are asked.
func TestP2504Edges(t *testing.T) {
	for _, x := range []struct {
		what, behind string
		events       int // that are waited for: more than there are, for the end
	}{{"an event", "for {} ", 1}, {"an exit", "", 2}, {"a panic", "panic(3); ", 2}} {
		fast := all(t, padded("func main() { print(7); "+x.behind+"}"))
		for level := 1; level <= 5; level++ {
			for part := range 2 {
				found := [2]bool{}
				for i := 0; i < 3600 && found != [2]bool{true, true}; i++ {
					own := all(t, padded(slow(i%300, i/300, x.behind)))
					m, fastAt, slowAt := mixed(own, fast, level), level, level-1
					if part == 1 {
						m, fastAt, slowAt = mixed(fast, own, level), level-1, level
					}
					if !sound(m) {
						continue
					}
					each, n := table(m)[level][part], steps(t, own, slowAt, x.events)
					fuel, late := n/each-1, n%each
					if fuel <= steps(t, fast, fastAt, x.events) || late > 1 {
						continue
					}
					found[late] = true
					asked(t, x.what, m, at(fuel), onlyAt(level, late == 1))
					if each == 1 { // one more would be the next one's
						found[1] = true
						asked(t, x.what, m, at(fuel-1), level)
					}
				}
				if found != [2]bool{true, true} {
					t.Errorf("P2504: %s: level %d, part %d: no edge was found: %v", x.what, level, part+1, found)
				}
			}
		}
	}
}

// TestP2504NotYet: words and depth are asked where the run above has ended, not one step ahead of it.
func TestP2504NotYet(t *testing.T) {
	for _, x := range []struct{ what, above, own string }{
		{"words", "func main() { var a []int = make([]int, 3); print(len(a) + 4); }", "func main() { print(7); }"},
		{"depths", "func f() int { return 1; } func main() { print(f() + 6); }", "func f() {} func main() { print(7); }"},
	} {
		above, own := all(t, padded(x.above)), all(t, padded(x.own))
		for level := 1; level <= 5; level++ {
			m := mixed(above, own, level)
			n := steps(t, above, level-1, 2)
			asked(t, x.what, m, at(n-1), 0)
			asked(t, x.what, m, at(n), level)
		}
	}
}

// TestP2504Fuel: where (n + 1) * a, or (n + 1) * b, is no fuel, nothing is asked of the runs, but that none is stuck.
func TestP2504Fuel(t *testing.T) {
	words := all(t, padded("func main() { var a []int = make([]int, 1 << 62 - 1); print(7); }")) // nothing is asked in 2.
	other := all(t, padded("func main() { print(7); panic(1); }"))
	short := all(t, padded("func main() { print(7); }"))
	heap := all(t, padded("func main() { print(7); var a []int = make([]int, 1 << 62); }")) // of its end nothing is asked in 1.
	for level := 1; level <= 5; level++ {
		first, second := mixed(words, other, level), mixed(short, heap, level)
		for part, m := range []tower.Mixed{first, second} {
			each := table(m)[level][part]
			last := api.MaxFuel/each - 1
			for _, fuel := range []int{last - 1, last} {
				asked(t, "a fuel", m, at(fuel), level)
			}
			for _, fuel := range []int{last + 1, last + 2, api.MaxFuel - 1, api.MaxFuel} {
				asked(t, "no fuel", m, at(max(fuel, last+1)), 0)
			}
		}
	}
}

// TestP2504Stuck: a run that is stuck fails, whatever the one above does; until then it does not.
func TestP2504Stuck(t *testing.T) {
	for level := 1; level <= 5; level++ {
		m := all(t, padded("func main() { for {} }"))
		switch level {
		case 1:
			m.Built.Funcs[0] = sample.SSA("main()\n0: p const nil; i const 0; x load p i; return").Funcs[0]
		case 2:
			m.Clean.Funcs[0] = sample.SSA("main()\n0: p const nil; i const 0; x load p i; return").Funcs[0]
		case 3:
			m.LIR.Funcs[0] = sample.LIR("main() regs 1\n0: r0 const 0; r0 const 0; r0 load r0 r0; return").Funcs[0]
		case 4:
			m.ALIR.Funcs[0] = sample.ALIR("main() slots 0\n0: r0 const 0; r0 const 0; r0 load r0 r0; return").Funcs[0]
		case 5:
			m.Program.Code = sample.Code("main() frame 2\n0: ldi r0 0; ldi r0 0; ldx r0 r0 r0; ret")
		}
		for fuel := range 6 {
			asked(t, "stuck", m, at(fuel), onlyAt(level, fuel > 2))
		}
		asked(t, "stuck", m, at(1000), level)
	}
}

// TestP2504StuckAtMaxFuel: that no run is stuck is asked where nothing else is. What a level refuses goes nowhere, either.
func TestP2504StuckAtMaxFuel(t *testing.T) {
	for level := 1; level <= 5; level++ {
		m := all(t, padded("func main() {}"))
		turns := []*string{1: &m.Built.Funcs[0].Name, &m.Clean.Funcs[0].Name, &m.LIR.Funcs[0].Name, &m.ALIR.Funcs[0].Name, &m.Program.Code.Funcs[0].Name}
		for _, fuel := range []int{0, 10, api.MaxFuel} {
			asked(t, "not refused", m, at(fuel), 0)
		}
		*turns[level] = "for"
		for _, fuel := range []int{0, 10, api.MaxFuel} {
			asked(t, "refused", m, at(fuel), level)
		}
	}
}

// framed are programs of which R16's has frames as reported, or others, in that order of the functions.
func framed(m tower.Mixed, frames ...int) tower.Mixed {
	m.Program.Reports = slices.Clone(m.Program.Reports)
	for i, frame := range frames {
		m.Program.Reports[i].Frame = frame
	}
	return m
}

// TestP2504Room: in 2. R16 has as many words as the run above was deep, for each the greatest frame that is reported.
func TestP2504Room(t *testing.T) {
	const f = "func f(n int) { if n > 0 { f(n - 1); print(n); } } " // 3 words
	ends := all(t, "func main() { f(3); } "+f)
	for _, limits := range []api.Limits{{}, {Stack: 1}, {Stack: 2}, {Stack: 13}, {Stack: 14}, wide} { // for 1. alone
		s := api.Script{Limits: limits, Fuel: 100}
		asked(t, "frames as they are", ends, s, 0)
		asked(t, "f's is the greatest", framed(ends, 0, 3), s, 0)
		asked(t, "main's is", framed(ends, 3, 0), s, 0)
		asked(t, "too small", framed(ends, 2, 2), s, 5)
	}
	asked(t, "14 words are enough, 15 are there", framed(ends, 3, 3), at(100), 0)
	endless := all(t, "func main() { f(3); for {} } "+f)
	for _, x := range []struct {
		what  string
		own   tower.Mixed
		frame int
		want  int
	}{
		{"as much as there is", ends, api.MaxStack / 5, 0},
		{"as much as there is, and no end", endless, api.MaxStack / 5, 5},
		{"more than there is", endless, api.MaxStack/5 + 1, 0},
		{"far more than there is", endless, api.MaxStack, 0},
	} {
		m := mixed(ends, x.own, 5)
		asked(t, x.what, framed(m, 2, x.frame), at(100), x.want)
		asked(t, x.what, framed(m, x.frame, 3), at(100), x.want)
	}
}

// TestP2504First: of several levels that fail the first one is told.
func TestP2504First(t *testing.T) {
	var list []tower.Mixed
	for i := range 6 {
		list = append(list, all(t, padded("func main() { print("+strconv.Itoa(i)+"); }")))
	}
	m := list[0]
	m.Program.Code = list[5].Program.Code
	asked(t, "one level", m, at(20), 5)
	m.ALIR = list[4].ALIR
	asked(t, "two levels", m, at(20), 4)
	m.LIR = list[3].LIR
	asked(t, "three levels", m, at(20), 3)
	m.Clean = list[2].Clean
	asked(t, "four levels", m, at(20), 2)
	m.Built = list[1].Built
	asked(t, "five levels", m, at(20), 1)
	asked(t, "too few steps for any of them", m, at(0), 0)
}
