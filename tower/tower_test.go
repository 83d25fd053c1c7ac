package tower_test

import (
	"math"
	"slices"
	"strings"
	"testing"

	"quern/api"
	"quern/tower"
)

// script is a text's, on that input, with these limits and that fuel.
func script(text string, input []int, stack, heap, fuel int) api.Script {
	return api.Script{Text: []byte(text), Input: input, Limits: api.Limits{Stack: stack, Heap: heap}, Fuel: fuel}
}

// ran is what Run answers of a script that is none of P2501.
func ran(t testing.TB, s api.Script) []api.Outcome {
	t.Helper()
	list, why := tower.Run(s)
	if why != api.OK || len(list) != 6 {
		t.Fatalf("P2502: %v, %d outcomes: %.300s", why, len(list), s.Text)
	}
	return list
}

// holds holds that Holds answers true and 0.
func holds(t testing.TB, s api.Script) {
	t.Helper()
	if is, level, why := tower.Holds(s); !is || level != 0 || why != api.OK {
		t.Fatalf("P2504, W4: %v, %d, %v: %v %+v fuel %d: %.300s", is, level, why, s.Input, s.Limits, s.Fuel, s.Text)
	}
}

func TestExamples(t *testing.T) {
	for _, x := range []struct {
		s    api.Script
		want string
	}{
		{script("func main() {}", nil, 2, 0, 2), "0: exit 2 0 1\n1: exit 1 0 1\n2: exit 1 0 1\n3: exit 1 0 1\n4: exit 1 0 1\n5: exit 1 0 1\n"},
		{script("func main() {}", nil, 1, 0, 2), "0: exit 2 0 1\n1: exit 1 0 1\n2: exit 1 0 1\n3: exit 1 0 1\n4: exit 1 0 1\n5: panic stack 0 0 0\n"},
	} {
		if is := told(ran(t, x.s)); is != x.want {
			t.Errorf("P2502: %swant %s", is, x.want)
		}
		holds(t, x.s)
	}
	s := script("func main() { for { print(1); } }", nil, 10, 10, 100)
	for level, o := range ran(t, s) {
		if o.End != api.Running || o.Steps != 100 || len(o.Events) == 0 {
			t.Errorf("P2502: level %d: %+v", level, o)
		}
	}
	holds(t, s)
	refused(t, script("func main() { x", nil, 0, 0, 0), api.ErrArg)
}

// refused holds that both calls answer an error, and nothing beside it.
func refused(t testing.TB, s api.Script, want api.Errno) {
	t.Helper()
	if list, why := tower.Run(s); why != want || list != nil {
		t.Errorf("P2501: Run: %v, %d outcomes; want %v", why, len(list), want)
	}
	if is, level, why := tower.Holds(s); why != want || is || level != 0 {
		t.Errorf("P2501: Holds: %v, %v, %d; want %v", why, is, level, want)
	}
}

// spoilt are the ways in which a script is wrong, in P2501's order.
func spoilt() [][]func(s *api.Script) {
	fuel := func(n int) func(s *api.Script) { return func(s *api.Script) { s.Fuel = n } }
	input := func(n int) func(s *api.Script) { return func(s *api.Script) { s.Input = make([]int, n) } }
	limits := func(stack, heap int) func(s *api.Script) {
		return func(s *api.Script) { s.Limits = api.Limits{Stack: stack, Heap: heap} }
	}
	text := func(text string) func(s *api.Script) { return func(s *api.Script) { s.Text = []byte(text) } }
	return [][]func(s *api.Script){
		{fuel(-1), fuel(api.MaxFuel + 1), fuel(math.MinInt), fuel(math.MaxInt)},
		{input(api.MaxInput + 1), input(2 * api.MaxInput)},
		{limits(-1, 0), limits(api.MaxStack+1, 0), limits(0, -1), limits(0, api.MaxHeap+1), limits(-1, api.MaxHeap+1), limits(math.MinInt, 5), limits(5, math.MaxInt)},
		{text(""), text("$"), text("func main() {"), text("func main() {} func main() {}"), text("func main() " + strings.Repeat("{", 201) + strings.Repeat("}", 201)),
			text("func main() {}" + strings.Repeat(" ", api.MaxSource)), text("func main() {} func f(a int, b int, c int, d int, e int, f int, g int, h int, i int) {}")},
	}
}

// TestP2501Errors spoils scripts in one way, and in two, of which the first one counts.
func TestP2501Errors(t *testing.T) {
	errors := []api.Errno{api.ErrFuel, api.ErrInput, api.ErrLimits, api.ErrArg}
	ways := spoilt()
	for i, first := range ways {
		for _, spoil := range first {
			s := script("func main() { print(input()); }", []int{1, 2}, 10, 10, 10)
			spoil(&s)
			refused(t, s, errors[i])
		}
		for _, second := range ways[i+1:] {
			s := script("func main() { print(input()); }", []int{1, 2}, 10, 10, 10)
			second[0](&s)
			first[0](&s)
			refused(t, s, errors[i])
		}
	}
	s := script("func main() {}", nil, 0, 0, 0)
	for _, way := range slices.Backward(ways) {
		way[len(way)-1](&s)
	}
	refused(t, s, api.ErrFuel)
	refused(t, api.Script{}, api.ErrArg)
}

// TestP2501AtTheLimits: at each limit all is well.
func TestP2501AtTheLimits(t *testing.T) {
	const text = "func main() { print(input() + 1); }"
	input := make([]int, api.MaxInput)
	input[0] = 41
	for _, s := range []api.Script{
		script(text, input, 10, 10, 100), script(text, input[:1], 10, 10, api.MaxFuel), script(text, input[:1], api.MaxStack, api.MaxHeap, 100),
		script(text, input, api.MaxStack, api.MaxHeap, api.MaxFuel), script(text+strings.Repeat(" ", api.MaxSource-len(text)), input, 2, 0, 100),
	} {
		for level, o := range ran(t, s) {
			if o.End != api.Exit || !slices.Equal(o.Events, []api.Event{{Kind: api.EventInt, Value: 42}}) {
				t.Errorf("P2501: level %d: %+v", level, o)
			}
		}
		holds(t, s)
	}
	for _, s := range []api.Script{script(text, input, 0, 0, 0), script(text, nil, 0, 0, 0), script(text, nil, 0, 0, api.MaxFuel)} {
		ran(t, s)
		holds(t, s)
	}
}

// TestP2502Levels: each level is the one of its number: they differ by their steps.
func TestP2502Levels(t *testing.T) {
	for _, x := range []struct {
		what string
		s    api.Script
		want string
	}{
		{"a value that nobody wants, a phi, and a block with a move for it", script("func main() { var a int = 1; var b int = input(); if b > 5 { b = 5; } print(b); }", []int{3}, 100, 100, 1000),
			"0: 3 exit 15 0 1\n1: 3 exit 8 0 1\n2: 3 exit 7 0 1\n3: 3 exit 8 0 1\n4: 3 exit 8 0 1\n5: 3 exit 7 0 1\n"},
		{"an array, and a call", script("func f(a []int) int { a[1] = 8; return a[1]; } func main() { print(f(make([]int, 2))); print(true); }", nil, 100, 100, 1000),
			"0: 8 true exit 20 3 2\n1: 8 true exit 18 3 2\n2: 8 true exit 18 3 2\n3: 8 true exit 18 3 2\n4: 8 true exit 18 3 2\n5: 8 true exit 20 3 2\n"},
		{"not so many steps as it wants", script("func main() { print(1); print(2); print(3); panic(4); }", nil, 100, 100, 4),
			"0: 1 running 4 0 1\n1: 1 2 running 4 0 1\n2: 1 2 running 4 0 1\n3: 1 2 running 4 0 1\n4: 1 2 running 4 0 1\n5: 1 2 running 4 0 1\n"},
		{"no steps: the tree has no activation yet, R16 has no room", script("func main() { print(1); }", nil, 0, 0, 0),
			"0: running 0 0 0\n1: running 0 0 1\n2: running 0 0 1\n3: running 0 0 1\n4: running 0 0 1\n5: panic stack 0 0 0\n"},
		{"no heap: R16's alone", script("func main() { var a []int = make([]int, 3); print(7); panic(len(a)); }", nil, 2, 3, 100),
			"0: 7 panic user 3 12 4 1\n1: 7 panic user 3 7 4 1\n2: 7 panic user 3 7 4 1\n3: 7 panic user 3 7 4 1\n4: 7 panic user 3 7 4 1\n5: panic heap 3 0 1\n"},
		{"room enough", script("func main() { var a []int = make([]int, 3); print(7); panic(len(a)); }", nil, 2, 4, 100),
			"0: 7 panic user 3 12 4 1\n1: 7 panic user 3 7 4 1\n2: 7 panic user 3 7 4 1\n3: 7 panic user 3 7 4 1\n4: 7 panic user 3 7 4 1\n5: 7 panic user 3 7 4 1\n"},
		{"more heap than there is: not at the tree", script("func main() { var a []int = make([]int, 4611686018427387904 - 1); var b []int = make([]int, 0); print(len(b)); }", nil, 2, 4, 100),
			"0: 0 exit 16 4611686018427387904 1\n1: panic heap 8 4611686018427387904 1\n2: panic heap 8 4611686018427387904 1\n3: panic heap 8 4611686018427387904 1\n4: panic heap 8 4611686018427387904 1\n5: panic heap 5 0 1\n"},
		{"no input", script("func main() { print(input()); print(input()); }", []int{3}, 9, 9, 100),
			"0: 3 panic input 6 0 1\n1: 3 panic input 3 0 1\n2: 3 panic input 3 0 1\n3: 3 panic input 3 0 1\n4: 3 panic input 3 0 1\n5: 3 panic input 3 0 1\n"},
	} {
		list := ran(t, x.s)
		if is := told(list); is != x.want {
			t.Errorf("P2502: %s:\n%swant\n%s", x.what, is, x.want)
		}
		if is, want := told(list), told(wanted(all(t, string(x.s.Text)), x.s)); is != want {
			t.Errorf("P2502: %s:\n%sby runs of their own\n%s", x.what, is, want)
		}
		holds(t, x.s)
	}
}
