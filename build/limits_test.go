package build_test

import (
	"runtime"
	"slices"
	"strconv"
	"strings"
	"testing"

	"quern/api"
	"quern/build"
	"quern/sample"
	"quern/tree"
	"quern/types"
)

// everything has all kinds of nodes, and a Phi of each sort.
const everything = `func f(a int, b bool, c []int) int {
	for b && a < 9 || c == nil {
		var d int = -a + ^a * (a / 2 - a % 3) & (a << 1 | a >> 1) ^ a &^ 7;
		if a == d { break; } else if a != d && !b { a = a + 1; continue; } else { c = make([]int, d); }
		c[a] = c[a - 1] + len(c); b = a <= d; { var a bool = b; b = a != true; }
	}
	if a > 3 { a = input(); }
	if a >= 4 { panic(a); } else { return a; }
}
func main() { var x []int; f(1, false, nil); print(f(2, true, x)); print(x != nil); for { g(x); if input() > 0 { return; } } }
func g(a []int) { a[0] = 1; }`

// holdError wants an error, with nothing beside it but the place.
func holdError(t *testing.T, what string, x api.Tree, place int, why api.Errno) {
	t.Helper()
	s, at, err := build.Build(x)
	if err != why || at != place || s.Main != 0 || s.Funcs != nil {
		t.Errorf("%s: %v at %d, with %d functions; want %v at %d", what, err, at, len(s.Funcs), why, place)
	}
}

func TestP1101NoTree(t *testing.T) {
	holdError(t, "none", api.Tree{}, 0, api.ErrBuildTree)
	holdError(t, "no nodes", api.Tree{Funcs: []int{0}}, 0, api.ErrBuildTree)
	for _, text := range []string{
		"", "func f() { }", "func main() { } func main() { }", "func main(a int) { }", "func main() { x = 1; }", "func main() { print(1 + true); }",
		"func main() { print(nil == nil); }", "func main() { } func f() int { }", "func main() { break; }", "func f() { } func main() { print(f()); }",
		"func main() { return; print(x); }", // what is not built must be right too
		"func f(a int, b int, c int, d int, e int, f int, g int, h int, i int) { x = 1; } func main() { }",
	} {
		holdError(t, text, parsed(t, text), 0, api.ErrBuildTree)
	}
	for _, text := range []string{"func main() { print(1); }", "func main() { for true { } }", "func main() { var a []int = nil; }", everything} {
		holdError(t, text+", without its types", parsed(t, text), 0, api.ErrBuildTree)
	}
}

func sameTree(a, b api.Tree) bool {
	return slices.Equal(a.Funcs, b.Funcs) && slices.EqualFunc(a.Nodes, b.Nodes, func(m, n api.Node) bool {
		return m.Kind == n.Kind && m.At == n.At && m.Where == n.Where && m.Close == n.Close && m.Decl == n.Decl && m.Type == n.Type &&
			m.Op == n.Op && m.Value == n.Value && m.Name == n.Name && slices.Equal(m.Kids, n.Kids)
	})
}

// TestP1101Turned turns each field of each node: what is no tree, or has other types, is refused, and nothing else is.
func TestP1101Turned(t *testing.T) {
	d := sample.Dice(5)
	x := read(t, everything)
	good, refused, others := 0, 0, 0
	hold := func(turned api.Tree) {
		typed, _, err := types.Types(turned)
		switch {
		case tree.Check(turned) != api.OK || err != api.OK:
			refused++
		case !sameTree(typed, turned):
			others++
		default:
			good++
			want, _ := oracle(turned, &d)
			if got := toldProgram(built(t, turned)); got != toldProgram(want) {
				t.Fatalf("%s\nwant\n%s", got, toldProgram(want))
			}
			return
		}
		holdError(t, "turned", turned, 0, api.ErrBuildTree)
	}
	for i := range x.Nodes {
		for _, turn := range turns(x.Nodes[i]) {
			turned := copyOf(x)
			turned.Nodes[i] = turn
			hold(turned)
		}
	}
	for _, funcs := range [][]int{nil, x.Funcs[:2], x.Funcs[1:], append(slices.Clone(x.Funcs), 0), {x.Funcs[1], x.Funcs[0], x.Funcs[2]}, {-1}, {len(x.Nodes)}} {
		turned := copyOf(x)
		turned.Funcs = funcs
		hold(turned)
	}
	t.Log(good, refused, others)
	if good < 500 || refused < 2000 || others < 200 {
		t.Errorf("%d are good, %d are refused, %d have other types: the turns are of one sort", good, refused, others)
	}
}

// turns are a node with each of its fields turned.
func turns(n api.Node) (list []api.Node) {
	with := func(turn func(n *api.Node)) {
		m := n
		m.Kids = slices.Clone(n.Kids)
		turn(&m)
		list = append(list, m)
	}
	for _, by := range []int{1, -1, 4, -1 << 62} {
		with(func(n *api.Node) { n.Kind += by })
		with(func(n *api.Node) { n.At += by })
		with(func(n *api.Node) { n.Where += by })
		with(func(n *api.Node) { n.Close += by })
		with(func(n *api.Node) { n.Decl += by })
		with(func(n *api.Node) { n.Type += by })
		with(func(n *api.Node) { n.Op += by })
		with(func(n *api.Node) { n.Value += by })
	}
	for _, typ := range []int{0, 1, 2, 3} {
		with(func(n *api.Node) { n.Type = typ })
		with(func(n *api.Node) { n.Decl = typ })
	}
	for _, name := range []string{"", "a", "b", "c", "f", "g", "x", "main", "if", "1", strings.Repeat("a", api.MaxName+1)} {
		with(func(n *api.Node) { n.Name = name })
	}
	with(func(n *api.Node) { n.Kids = append(n.Kids, 0) })
	with(func(n *api.Node) { slices.Reverse(n.Kids) })
	if len(n.Kids) > 0 {
		with(func(n *api.Node) { n.Kids = n.Kids[1:] })
		with(func(n *api.Node) { n.Kids[0]-- })
	}
	return list
}

func params(n int) string {
	list := make([]string, n)
	for i := range list {
		list[i] = "p" + strconv.Itoa(i) + []string{" int", " bool", " []int"}[i%3]
	}
	return strings.Join(list, ", ")
}

func TestP1101Params(t *testing.T) {
	for n := range api.MaxParams + 1 {
		s := built(t, read(t, "func main() { } func f("+params(n)+") { }"))
		f := s.Funcs[1]
		if len(f.Params) != n || len(f.Values) != n {
			t.Errorf("%d parameters: %d, and %d values", n, len(f.Params), len(f.Values))
		}
		for i, p := range f.Params {
			v := f.Values[p]
			if p != i || v.Op != api.InsParam || v.Imm != i || v.Type != 1+i%3 || len(v.Args) != 0 {
				t.Errorf("the parameter %d of %d: v%d %+v", i, n, p, v)
			}
		}
	}
	for _, n := range []int{api.MaxParams + 1, api.MaxParams + 2, 1000} {
		holdError(t, "parameters", read(t, "func f("+params(n)+") { } func main() { }"), 0, api.ErrBuildParams)
		holdError(t, "parameters", read(t, "func main() { } func g() { } func f("+params(n)+") { }"), 2, api.ErrBuildParams)
	}
}

// TestP1101Functions: the functions in the tree's order, with their names and results; main in any place; calls by places.
func TestP1101Functions(t *testing.T) {
	texts := []string{"func f() int { return 1; }", "func g(a bool) bool { return a; }", "func h(a []int) []int { return a; }", "func none() { }"}
	names, results := []string{"f", "g", "h", "none"}, []int{api.TypeInt, api.TypeBool, api.TypeInts, api.TypeNone}
	for place := range len(texts) + 1 {
		all := slices.Insert(slices.Clone(texts), place, "func main() { f(); g(true); h(nil); none(); main(); }")
		s := built(t, read(t, strings.Join(all, " ")))
		n, r := slices.Insert(slices.Clone(names), place, "main"), slices.Insert(slices.Clone(results), place, api.TypeNone)
		if s.Main != place || len(s.Funcs) != len(all) {
			t.Fatalf("main at %d of %d, want %d", s.Main, len(s.Funcs), place)
		}
		var called []string
		for i, f := range s.Funcs {
			if f.Name != n[i] || f.Result != r[i] {
				t.Errorf("the function %d: %s, %d", i, f.Name, f.Result)
			}
			for _, v := range f.Values {
				if v.Op == api.InsCall {
					called = append(called, n[v.Imm])
				}
			}
		}
		if !slices.Equal(called, []string{"f", "g", "h", "none", "main"}) {
			t.Errorf("main at %d calls %v", place, called)
		}
	}
}

// construct is a statement, how many blocks are begun for it, and what it counts.
type construct struct {
	text          string
	blocks, count int
}

func constructs() []construct {
	return []construct{
		{"if true { }", 2, 1}, {"if true { return; }", 2, 1}, {"if true { } else { }", 3, 1}, {"if true { return; } else { }", 3, 1},
		{"if true { } else if true { }", 5, 2}, {"if true { return; } else if true { return; } else { }", 6, 2},
		{"for true { }", 3, 1}, {"for { break; }", 3, 0}, {"for true { break; }", 3, 1}, {"for { if true { break; } }", 5, 1}, {"for { if true { break; } continue; }", 5, 1},
		{"print(true && true);", 2, 6}, {"print(true || true);", 2, 6}, {"print(true && true || true && true);", 6, 14},
		{"if true && true { }", 4, 5}, {"for true || true { }", 5, 5}, {"for { for { break; } break; }", 6, 0}, {"{ { if true { } } }", 2, 1},
		{"if true { for { } if true { } }", 4, 1}, {"if true { return; if true { } }", 2, 1}, {"if true { { panic(1); } for { } }", 2, 2},
	}
}

// lastly are statements behind which no block is open: what follows is not built.
func lastly() []construct {
	return []construct{{"return;", 0, 0}, {"panic(1);", 0, 1}, {"for { }", 2, 0}, {"if true { return; } else { panic(1); }", 2, 2}, {"for { return; }", 2, 0}, {"for { for { } }", 4, 0}}
}

// withBlocks is the text of main with just so many blocks, most of them of one construct; the last statement may leave none open.
func withBlocks(c, last construct, blocks int) string {
	left := blocks - 1 - last.blocks
	times := (left - 4) / c.blocks // so that what is left can be filled by twos and one three
	left -= times * c.blocks
	text := strings.Repeat(c.text, times)
	if left%2 == 1 {
		text += "for true { }"
		left -= 3
	}
	return "func main() { " + text + strings.Repeat("if true { }", left/2) + last.text + " }"
}

func TestP1101Blocks(t *testing.T) {
	for _, c := range constructs() {
		for _, last := range append(lastly(), construct{}) {
			behind := ""
			if last.text != "" {
				behind = strings.Repeat(" if true && true { for { } }", 300)
			}
			for _, blocks := range []int{api.MaxBlocks - 1, api.MaxBlocks} {
				x := read(t, strings.TrimSuffix(withBlocks(c, last, blocks), "}")+behind+"}")
				if s := built(t, x); len(s.Funcs[0].Blocks) != blocks {
					t.Errorf("%s .. %s: %d blocks, want %d", c.text, last.text, len(s.Funcs[0].Blocks), blocks)
				}
			}
			for _, blocks := range []int{api.MaxBlocks + 1, api.MaxBlocks + 2, 3 * api.MaxBlocks} {
				holdError(t, c.text+" .. "+last.text, read(t, withBlocks(c, last, blocks)), 0, api.ErrBuildBlocks)
			}
		}
	}
}

// TestP1101BlocksOfFunctions: the limit is each function's own.
func TestP1101BlocksOfFunctions(t *testing.T) {
	full := withBlocks(construct{"for true { }", 3, 1}, construct{}, api.MaxBlocks)
	other := strings.Replace(full, "main", "f", 1)
	if s := built(t, read(t, full+other)); len(s.Funcs[0].Blocks) != api.MaxBlocks || len(s.Funcs[1].Blocks) != api.MaxBlocks {
		t.Errorf("%d and %d blocks", len(s.Funcs[0].Blocks), len(s.Funcs[1].Blocks))
	}
	more := strings.Replace(withBlocks(construct{"for true { }", 3, 1}, construct{}, api.MaxBlocks+1), "main", "f", 1)
	holdError(t, "the second one", read(t, full+more), 1, api.ErrBuildBlocks)
	holdError(t, "the first one", read(t, more+full), 0, api.ErrBuildBlocks)
}

// TestP1110Constructs counts each construct many times over.
func TestP1110Constructs(t *testing.T) {
	for _, c := range append(constructs(), lastly()...) {
		t.Run(c.text, func(t *testing.T) {
			t.Parallel()
			times := 1
			if c.blocks > 0 && !slices.Contains(lastly(), c) {
				times = 1000 / c.blocks
			}
			holdCount(t, read(t, "func main() { "+strings.Repeat(c.text, times)+" }"), times*c.count)
		})
	}
}

// TestP1110TakenAway counts Phis that are taken away, with their Args.
func TestP1110TakenAway(t *testing.T) {
	const ways = 300
	for _, x := range []struct {
		what, ahead, each, behind string
		count, left               int // and how many values are left
	}{
		{"joins", "", "if b { }", "print(a);", 2 + 3*ways*2 - 3 + 1, 3}, // of b in all joins but the last one, of a in all of them
		{"heads", "", "for b { }", "print(a);", 2 + 3*ways*2 + 1, 3},
		{"heads of one way", "", "for b { break; }", "print(a);", 2 + 2*ways + 3*(ways-1) + 3*ways + 1, 3},
		{"signs", "", "c = b && b;", "print(a);", 3 + 3*ways + 3*(ways-1) + 3*ways + 1, 4},
		{"left", "", "if b { a = a + 1; }", "print(a);", 2 + 3*(ways-1) + 2*ways + 3*ways + 1, 3 + 3*ways},
	} {
		t.Run(x.what, func(t *testing.T) {
			t.Parallel()
			declared := "var a int = input(); var b bool; "
			if strings.Contains(x.each, "c") {
				declared += "var c bool; "
			}
			r := read(t, "func main() { "+declared+x.ahead+strings.Repeat(x.each, ways)+x.behind+" }")
			if s := built(t, r); len(s.Funcs[0].Values) != x.left {
				t.Errorf("%d values, want %d", len(s.Funcs[0].Values), x.left)
			}
			holdCount(t, r, x.count)
		})
	}
}

// counting is the text of a function that counts so many: by itself, or by a Phi with its Args, too.
func counting(name string, count int) string {
	return "func " + name + "() { " + strings.Repeat("print(1);", count/2) + strings.Repeat("none();", count%2) + " } "
}

func TestP1101Values(t *testing.T) {
	const none = "func none() { } "
	if s := built(t, read(t, none+counting("main", api.MaxValues))); len(s.Funcs[1].Values) != api.MaxValues {
		t.Errorf("%d values", len(s.Funcs[1].Values))
	}
	holdError(t, "one more", read(t, none+counting("main", api.MaxValues+1)), 1, api.ErrBuildValues)
	holdError(t, "one more", read(t, counting("f", api.MaxValues+1)+none+counting("main", api.MaxValues)), 0, api.ErrBuildValues)
	holdError(t, "many more", read(t, none+counting("main", 3*api.MaxValues)), 1, api.ErrBuildValues)
	// What is not built does not count.
	full := strings.Replace(counting("main", api.MaxValues), " } ", "return; print(1); for true && true { print(2); } }", 1)
	if s := built(t, read(t, none+full)); len(s.Funcs[1].Values) != api.MaxValues {
		t.Errorf("%d values", len(s.Funcs[1].Values))
	}
	// Parameters count.
	wide := "func f(" + params(api.MaxParams) + ") { " + strings.Repeat("none();", api.MaxValues-api.MaxParams)
	built(t, read(t, none+wide+"} func main() { }"))
	holdError(t, "parameters", read(t, none+wide+"none(); } func main() { }"), 1, api.ErrBuildValues)
}

// TestP1101ValuesAtEveryPlace lets the count pass its limit at every place of a function: whatever is built behind it.
func TestP1101ValuesAtEveryPlace(t *testing.T) {
	t.Parallel()
	x := read(t, everything)
	d := sample.Dice(11)
	_, functions := oracle(x, &d)
	for more := range functions[0].count {
		holdError(t, "past the limit", padded(x, api.MaxValues-more), 0, api.ErrBuildValues)
	}
}

// joined has the functions of several trees, one behind the other.
func joined(trees ...api.Tree) api.Tree {
	var all api.Tree
	for _, x := range trees {
		x, first := copyOf(x), len(all.Nodes)
		for i := range x.Nodes {
			for k := range x.Nodes[i].Kids {
				x.Nodes[i].Kids[k] += first
			}
		}
		all.Nodes = append(all.Nodes, x.Nodes...)
		for _, f := range x.Funcs {
			all.Funcs = append(all.Funcs, f+first)
		}
	}
	return all
}

// full are 16 functions whose counts are at their limit: 16 are left to the program.
func full() api.Tree {
	var all []api.Tree
	for i := range 16 {
		empty := api.Tree{Nodes: []api.Node{{Kind: api.NodeBlock}, {Kind: api.NodeFunc, Name: "f" + strconv.Itoa(i), Kids: []int{0}}}, Funcs: []int{1}}
		all = append(all, padded(empty, api.MaxValues))
	}
	return joined(all...)
}

// TestP1101FarBeyond: a count far past its limit costs no more than one at it.
func TestP1101FarBeyond(t *testing.T) {
	const n = 20000
	text := "func main() { var b bool; var v0 int; " +
		names(n, func(name, next string) string { return "var " + next + " int = " + name + ";" }) +
		strings.Repeat("if b { }", 500) +
		names(n, func(name, next string) string { return name + " = " + next + ";" }) + "}"
	x := read(t, text)
	var before, after runtime.MemStats
	runtime.ReadMemStats(&before)
	holdError(t, "30 millions", x, 0, api.ErrBuildValues)
	runtime.ReadMemStats(&after)
	if taken := after.TotalAlloc - before.TotalAlloc; taken > 200<<20 {
		t.Errorf("%d bytes", taken)
	}
}

func TestP1101Program(t *testing.T) {
	const left = api.MaxProgram - 16*api.MaxValues
	all := full()
	// The Phi of the last one is taken away; with its Args it counts, too: 1 + 3 + 1.
	const phi, none = "func g() { var b bool; if b { } print(b); } ", "func none() { } "
	for _, x := range []struct {
		what, text string
		place      int
		why        api.Errno
	}{
		{"at the limit", none + counting("main", left), 0, api.OK},
		{"one more", none + counting("main", left+1), 17, api.ErrBuildProgram},
		{"one more, of a further one", none + counting("main", left) + counting("g", 0) + counting("h", 1) + counting("i", 5), 19, api.ErrBuildProgram},
		{"at the limit, and a further one past its own", none + counting("main", left) + counting("g", api.MaxValues+1), 18, api.ErrBuildValues},
		{"both at once", none + counting("main", api.MaxValues+1), 17, api.ErrBuildValues},
		{"with too many blocks", withBlocks(construct{"for true { }", 3, 1}, construct{}, api.MaxBlocks+1), 16, api.ErrBuildBlocks},
		{"with too many parameters", counting("main", left) + "func g(" + params(9) + ") { print(1); }", 17, api.ErrBuildParams},
		{"at the limit by Phis", none + counting("main", left-5) + phi, 0, api.OK},
		{"one more by Phis", none + counting("main", left-4) + phi, 18, api.ErrBuildProgram},
	} {
		t.Run(x.what, func(t *testing.T) {
			t.Parallel()
			tree := joined(all, read(t, x.text))
			if x.why != api.OK {
				holdError(t, x.what, tree, x.place, x.why)
				return
			}
			if s := built(t, tree); len(s.Funcs) != len(tree.Funcs) || len(s.Funcs[15].Values) != api.MaxValues {
				t.Errorf("%d functions", len(s.Funcs))
			}
		})
	}
}

// TestP1101FaultsInOne: several faults in one function; which of them is answered does not hang on where they are.
func TestP1101FaultsInOne(t *testing.T) {
	values := strings.Repeat("print(1);", api.MaxValues)
	blocks := strings.Repeat("if true { }", api.MaxBlocks)
	loops := strings.Repeat("for true && p1 { p0 = p0 + 1; }", api.MaxBlocks)
	for _, x := range []struct {
		what, text string
		why        api.Errno
	}{
		{"all", "func f(" + params(9) + ") { " + values + blocks + " }", api.ErrBuildParams},
		{"all", "func f(" + params(9) + ") { " + blocks + values + " }", api.ErrBuildParams},
		{"parameters and values", "func f(" + params(9) + ") { " + values + " }", api.ErrBuildParams},
		{"parameters and blocks", "func f(" + params(9) + ") { " + blocks + " }", api.ErrBuildParams},
		{"values, then blocks", "func f(" + params(8) + ") { " + values + blocks + " }", api.ErrBuildBlocks},
		{"values, then loops", "func f(" + params(8) + ") { " + values + loops + " }", api.ErrBuildBlocks},
		{"values, then one sign with too many blocks", "func f() { " + values + "print(true" + strings.Repeat(" && true", api.MaxBlocks) + "); }", api.ErrBuildBlocks},
		{"blocks, then values", "func f(" + params(8) + ") { " + blocks + values + " }", api.ErrBuildBlocks},
		{"loops, then values", "func f(" + params(8) + ") { " + loops + values + " }", api.ErrBuildBlocks},
		{"blocks that are not built", "func f() { " + values + "return; " + blocks + " }", api.ErrBuildValues},
		{"values that are not built", "func f() { " + blocks + "return; " + values + " }", api.ErrBuildBlocks},
	} {
		holdError(t, x.what, read(t, x.text+" func main() { }"), 0, x.why)
		holdError(t, x.what, read(t, "func main() { } "+x.text), 1, x.why)
	}
}

// TestP1101FaultsInTwo: the first function that has a fault is answered, whatever the others have.
func TestP1101FaultsInTwo(t *testing.T) {
	faults := []struct {
		text string
		why  api.Errno
	}{
		{"(" + params(9) + ") { }", api.ErrBuildParams},
		{"() { " + strings.Repeat("for true { }", 342) + " }", api.ErrBuildBlocks},
		{"() { " + strings.Repeat("print(1);", 32768) + " }", api.ErrBuildValues},
	}
	for _, a := range faults {
		for _, b := range faults {
			text := "func main() { } func a" + a.text + " func good() { print(1); } func b" + b.text
			holdError(t, "two faults", read(t, text), 1, a.why)
		}
	}
}
