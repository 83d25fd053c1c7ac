package scan_test

import (
	"slices"
	"sync"
	"testing"

	"quern/api"
	"quern/sample"
	"quern/scan"
)

// roomy is intervals with spare room behind them, in which others stand.
func roomy(l []api.Interval) []api.Interval {
	all := append(make([]api.Interval, 0, len(l)+3), l...)
	all = append(all, read("0: 90 to 99, 70: 91 to 92, 71: 5 to 4")...)
	return all[:len(l)]
}

func whole(l []api.Interval) string { return tellList(l[:cap(l)]) }

// lists are some without a fault and, behind them, some with one.
func lists() []string {
	return append([]string{
		"", "2: 1 to 4", "0: 0 to 4, 1: 3 to 6, 2: 5 to 9", "0: 0 to 9, 1: 4 to 6, 2: 8 to 9", "0: 0 to 5, 1: 0 to 5, 2: 1 to 5",
		"0: 0 to 9, 1: 1 to 8, 2: 2 to 11, 3: 3 to 6, 4: 4 to 7", "9: 0 to 2, 1: 3 to 7, 5: 3 to 4, 0: 9 to 9",
	}, wrongs()...)
}

// asked tells what is answered with each number of registers.
func asked(l []api.Interval) (told string) {
	for regs := range api.Allocated + 2 {
		places, slots, e := scan.Scan(l, regs)
		told += tell(places, slots) + " " + e.Error() + "\n"
	}
	return told
}

func TestP1805NotChanged(t *testing.T) {
	for _, text := range lists() {
		l := roomy(read(text))
		was := whole(l)
		asked(l)
		if whole(l) != was {
			t.Errorf("P1805: %s became %s", was, whole(l))
		}
	}
	d := sample.Dice(1805)
	for range 1000 {
		l := roomy(draw(&d, 1+d.Below(40), 1+d.Below(40), 1+d.Below(40)))
		was := slices.Clone(l[:cap(l)])
		scan.Scan(l, 1+d.Below(api.Allocated))
		if !slices.Equal(l[:cap(l)], was) {
			t.Fatalf("P1805: %s became %s", tellList(was), whole(l))
		}
	}
}

// TestP1805SpareRoom: what stands in spare room counts for nothing.
func TestP1805SpareRoom(t *testing.T) {
	for _, text := range lists() {
		if is, want := asked(roomy(read(text))), asked(slices.Clip(read(text))); is != want {
			t.Errorf("P1805: %s: with spare room %s, else %s", text, is, want)
		}
	}
	if places, slots, e := scan.Scan(roomy(nil), 1); len(places) != 0 || slots != 0 || e != api.OK {
		t.Errorf("P1803: of no interval with spare room: %s, %v", tell(places, slots), e)
	}
	if is, want := asked([]api.Interval{}), asked(nil); is != want {
		t.Errorf("P1803: of an empty list %s, of nil %s", is, want)
	}
}

// TestP1805NewMemory: what is done with an answer, its spare room too, is seen neither in the list nor in another answer; nor what is done with the list afterwards.
func TestP1805NewMemory(t *testing.T) {
	for _, text := range lists() {
		for regs := 1; regs <= api.Allocated; regs++ {
			l := roomy(read(text))
			was := whole(l)
			first, _, _ := scan.Scan(l, regs)
			second, slots, e := scan.Scan(l, regs)
			want := tell(second, slots)
			spare := first[:cap(first)]
			for i := range spare {
				spare[i] = slot(77)
			}
			if whole(l) != was || tell(second, slots) != want {
				t.Errorf("P1805: %s: an answer is not new memory", text)
			}
			clear(l[:cap(l)])
			if tell(second, slots) != want {
				t.Errorf("P1805: %s: an answer changed with the list", text)
			}
			if is, count, again := scan.Scan(read(text), regs); again != e || tell(is, count) != want {
				t.Errorf("P1805: %s: %s, and then %s", text, want, tell(is, count))
			}
		}
	}
}

// TestP1805Grown: two answers that grow don't write into each other, or into the list.
func TestP1805Grown(t *testing.T) {
	l := roomy(read("0: 0 to 9, 1: 4 to 6, 2: 8 to 9"))
	was := whole(l)
	a, _, _ := scan.Scan(l, 1)
	b, _, _ := scan.Scan(l, 1)
	a = append(a, reg(1), reg(2), reg(3), reg(4))
	b = append(b, slot(5), slot(6), slot(7), slot(8))
	if tell(a, 0) != "s0 r0 r0 r1 r2 r3 r4; 0" || tell(b, 0) != "s0 r0 r0 s5 s6 s7 s8; 0" || whole(l) != was {
		t.Errorf("P1805: grown: %s, %s of %s", tell(a, 0), tell(b, 0), whole(l))
	}
	none, _, _ := scan.Scan(l[:0], 1)
	other, _, _ := scan.Scan(l[:0], 1)
	none, other = append(none, reg(3)), append(other, reg(4))
	if tell(none, 0) != "r3; 0" || tell(other, 0) != "r4; 0" || whole(l) != was {
		t.Errorf("P1805: grown from nothing: %s, %s of %s", tell(none, 0), tell(other, 0), whole(l))
	}
}

// TestP1805OtherIntervals: calls over the same memory, with other intervals in it each time.
func TestP1805OtherIntervals(t *testing.T) {
	l := make([]api.Interval, 3)
	rows := []struct {
		list string
		want string
		e    api.Errno
	}{
		{"0: 0 to 9, 1: 4 to 6, 2: 8 to 9", "s0 r0 r0; 1", api.OK},
		{"0: 0 to 3, 1: 4 to 6, 2: 8 to 9", "r0 r0 r0; 0", api.OK},
		{"0: 0 to 3, 1: 4 to 6, 1: 8 to 9", "; 0", api.ErrScanList},
		{"2: 0 to 5, 1: 1 to 5, 0: 1 to 9", "; 0", api.ErrScanList},
		{"2: 0 to 5, 0: 1 to 9, 1: 1 to 5", "s0 r0 s1; 2", api.OK},
		{"4: 0 to 5, 3: 6 to 9, 6: 9 to 9", "- - - r0 r0 - s0; 1", api.OK},
	}
	for range 2 {
		for _, x := range rows {
			copy(l, read(x.list))
			if places, slots, e := scan.Scan(l, 1); e != x.e || tell(places, slots) != x.want {
				t.Errorf("P1805: %s: %s, %v; want %s, %v", x.list, tell(places, slots), e, x.want, x.e)
			}
		}
	}
	for n, want := range []string{"; 0", "- - - - r0; 0", "- - - r0 r0; 0", "- - - r0 r0 - s0; 1"} {
		if places, slots, e := scan.Scan(l[:n], 1); e != api.OK || tell(places, slots) != want {
			t.Errorf("P1805: of the first %d: %s, %v", n, tell(places, slots), e)
		}
	}
}

// TestSameAgain asks the same many times, several at once, with others between.
func TestSameAgain(t *testing.T) {
	d := sample.Dice(314159265)
	for range 60 {
		l, other := draw(&d, 50, 60, 40), draw(&d, 30, 20, 20)
		want := asked(l)
		told := make([]string, 16)
		var waiting sync.WaitGroup
		for i := range told {
			waiting.Go(func() {
				asked(other)
				told[i] = asked(l)
			})
		}
		waiting.Wait()
		for _, is := range told {
			if is != want {
				t.Fatalf("DOC.md, 4: %s: %s, want %s", tellList(l), is, want)
			}
		}
	}
}
