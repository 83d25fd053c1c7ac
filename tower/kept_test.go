package tower_test

import (
	"slices"
	"strconv"
	"sync"
	"testing"

	"quern/api"
	"quern/sample"
	"quern/tower"
)

// scripts are some with events and arrays, deep ones, some that are refused, and drawn ones.
func scripts() []api.Script {
	list := []api.Script{
		script("func main() {}", nil, 2, 0, 2), script("func main() { for { print(input()); } }", []int{1, 2, 3, 4, 5}, 10, 10, 100),
		script("func f(a []int, n int) { a[n] = input(); print(a[n] > 2); if n > 0 { f(a, n - 1); } print(a[n]); } func main() { f(make([]int, 5), 4); }", []int{3, 1, 4, 1, 5}, 30, 10, 500),
		script("func main() { print(1); print(true); panic(input()); }", []int{-7}, 2, 0, 100), script("func main() { main(); }", nil, 9, 9, 300),
		script("func main() { x", []int{1}, 5, 5, 5), script("func main() {}", []int{1}, 5, 5, -1), script("func main() {}", []int{1}, -5, 5, 5),
	}
	d := sample.Dice(77)
	for i := range 60 {
		list = append(list, drawn(&d, sample.DrawText(&d, 3+d.Below(40), i%2 == 0)))
	}
	return list
}

// whole is all that both calls answer of a script, in words.
func whole(s api.Script) string {
	list, why := tower.Run(s)
	is, level, why2 := tower.Holds(s)
	return told(list) + why.Error() + " " + strconv.FormatBool(is) + " " + strconv.Itoa(level) + " " + why2.Error()
}

// roomy is a script with spare room behind its lists that would go on with them.
func roomy(s api.Script) api.Script {
	s.Text = append(slices.Clone(s.Text), "} $ func main() {}"...)[:len(s.Text)]
	s.Input = append(slices.Clone(s.Input), 11, 12, 13)[:len(s.Input)]
	return s
}

// room is all that its lists hold, spare room included.
func room(s api.Script) string {
	told := string(s.Text[:len(s.Text)+18])
	for _, n := range s.Input[:len(s.Input)+3] {
		told += " " + strconv.Itoa(n)
	}
	return told
}

func TestNotChanged(t *testing.T) {
	for _, s := range scripts() {
		want := whole(s)
		r := roomy(s)
		before := room(r)
		if is := whole(r); is != want || room(r) != before {
			t.Fatalf("DOC.md, 3: with spare room %s\nwant %s; then %s", is, want, room(r))
		}
	}
}

func TestNewMemory(t *testing.T) {
	for _, s := range scripts() {
		want := whole(s)
		r := roomy(s)
		list, _ := tower.Run(r)
		was := told(list)
		for i := range r.Text[:cap(r.Text)] {
			r.Text[:cap(r.Text)][i] = 'z'
		}
		for i := range r.Input[:cap(r.Input)] {
			r.Input[:cap(r.Input)][i] = -99
		}
		if is := told(list); is != was {
			t.Fatalf("DOC.md, 3: what was handed in is kept: %swant %s", is, was)
		}
		for level := range list { // each one's events, spare room included: nobody else's are
			events := list[level].Events[:cap(list[level].Events)]
			saved := slices.Clone(events)
			for i := range events {
				events[i] = api.Event{Kind: 9, Value: 9}
			}
			for other := range list {
				if other != level && slices.Contains(list[other].Events[:cap(list[other].Events)], api.Event{Kind: 9, Value: 9}) {
					t.Fatalf("DOC.md, 3: the events of the levels %d and %d share memory", level, other)
				}
			}
			copy(events, saved)
		}
		for _, o := range list[:cap(list)] {
			clear(o.Events)
		}
		clear(list[:cap(list)])
		if is := whole(s); is != want {
			t.Fatalf("DOC.md, 4: an answer that was written over is to be seen in a later one: %s\nwant %s", is, want)
		}
	}
}

// TestSameAgain asks for scripts many times, several at once, with others between.
func TestSameAgain(t *testing.T) {
	list := scripts()
	var want []string
	for _, s := range list {
		want = append(want, whole(s))
	}
	told := make([][]string, 8)
	var waiting sync.WaitGroup
	for k := range told {
		waiting.Go(func() {
			for i := range list {
				told[k] = append(told[k], whole(list[(i*(2*k+1)+k)%len(list)]))
			}
		})
	}
	waiting.Wait()
	for k, all := range told {
		for i, is := range all {
			if at := (i*(2*k+1) + k) % len(list); is != want[at] {
				t.Fatalf("DOC.md, 4: %s\nwant %s\nof %s", is, want[at], list[at].Text)
			}
		}
	}
}
