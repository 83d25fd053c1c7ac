package tower_test

import (
	"testing"

	"quern/sample"
)

// numbered is a text, and the table of P2503 for it: a and b of the levels 1, 2, 3, 5 (of 4 both are 1).
type numbered struct {
	what, text         string
	one, two, three, r [2]int
}

func numberedTexts() []numbered {
	return []numbered{
		{"nothing to do: 2 nodes; 1 block; an end", "func main() {}",
			[2]int{4*2 + 4, 2 + 0 + 1}, [2]int{1, 1}, [2]int{2, 2}, [2]int{2 + 1, 64}},
		{"6 nodes; 4 values, 1 block", "func main() { print(input() + 1); }",
			[2]int{4*6 + 4, 2 + 4 + 1}, [2]int{1, 1}, [2]int{2, 2}, [2]int{2 + 5, 64}},
		{"two values that nobody wants", "func main() { var a int = 1; var b int = 2; var c int = a + b; print(b); }",
			[2]int{4*12 + 4, 2 + 4 + 1}, [2]int{1 + 2, 1}, [2]int{2, 2}, [2]int{2 + 3, 64}},
		{"a phi that is wanted, of an if without an else: a move on both ways, on one of them in a block of its own", "func main() { var a int = input(); if a > 5 { a = 5; } print(a); }",
			[2]int{4*13 + 4, 2 + 6 + 3}, [2]int{1, 1}, [2]int{2 + 1, 2 + 2 + 1}, [2]int{2 + 11, 64}},
		{"no phi, as nobody asks; but a block of its own", "func main() { var a int = input(); if a > 5 { a = 5; } print(7); }",
			[2]int{4*13 + 4, 2 + 6 + 3}, [2]int{1 + 1, 1}, [2]int{2, 2 + 0 + 1}, [2]int{2 + 9, 64}},
		{"a phi that nobody wants: no move", "func main() { var a int = input(); if a > 5 { a = 5; } var b int = a; print(7); }",
			[2]int{4*15 + 4, 2 + 7 + 3}, [2]int{1 + 2, 1}, [2]int{2, 2 + 0 + 1}, [2]int{2 + 9, 64}},
		{"all functions: a phi with two moves and a block of its own in each", "func main() { var i int; for i < 9 { if i > 3 { print(i); } i = i + 1; } f(i); } func f(a int) { var b bool = a == 0 || a > 2; print(b); }",
			[2]int{4*35 + 4, 2 + 10 + 7 + 6 + 3}, [2]int{1, 1}, [2]int{2 + 2, 2 + 4 + 2}, [2]int{2 + 18 + 11, 64}},
	}
}

func TestP2503Numbers(t *testing.T) {
	for _, x := range numberedTexts() {
		m := all(t, x.text)
		for k, want := range [6][2]int{1: x.one, x.two, x.three, {1, 1}, x.r} {
			if k == 0 {
				continue
			}
			if a, b := m.Numbers(k); [2]int{a, b} != want {
				t.Errorf("P2503: %s: level %d: %d, %d; want %d, of %v", x.what, k, a, b, want, counted(m))
			}
		}
	}
}

// TestP2503Drawn counts them once more.
func TestP2503Drawn(t *testing.T) {
	t.Parallel()
	d, c := sample.Dice(2503), counts{}
	for i := range 400 {
		text := sample.DrawText(&d, 3+d.Below(60), i%2 == 0)
		m := all(t, text)
		for k, want := range table(m) {
			if k == 0 {
				continue
			}
			if a, b := m.Numbers(k); [2]int{a, b} != want {
				t.Fatalf("P2503: level %d: %d, %d; want %d, of %v:\n%s", k, a, b, want, counted(m), text)
			}
		}
		for name, n := range counted(m) {
			c.add("some "+name, n > 0)
			c.add("many "+name, n > 20)
		}
		c.add("several functions", len(m.Built.Funcs) > 1)
	}
	c.hold(t, 30, "some N", "some V", "some B", "some G", "some P", "some M", "some E", "some A", "many N", "many V", "many B", "many M", "many A", "several functions")
}
