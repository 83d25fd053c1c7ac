package moves_test

import (
	"slices"
	"testing"

	"quern/api"
	"quern/moves"
)

// roomy is moves with spare room behind them, in which other moves stand.
func roomy(text string) []api.Move {
	l := read(text)
	all := append(make([]api.Move, 0, len(l)+4), l...)
	all = append(all, read("r70 r71, r71 r70, s70 s71, r72 7")...)
	return all[:len(l)]
}

func texts() []string {
	return []string{
		"", "r0 r0", "r0 r1", "r0 r1, r1 r2", "r1 r0, r2 r1", "r0 r1, r1 r0", "r0 7, r1 r0",
		"r2 r2, r0 r1, r1 r0, s0 r0, r3 7", "r0 r1, r1 r0, s0 s1, s1 s0",
		"r0 r1, r0 r1", "r0 r9", "7 r0", "r0 r1, r1 r0, r-1 r0",
	}
}

func whole(l []api.Move) string { return tell(l[:cap(l)]) }

func TestP1304NotChanged(t *testing.T) {
	for _, text := range texts() {
		l := roomy(text)
		moves.Order(l, reg(9))
		if whole(l) != whole(roomy(text)) {
			t.Errorf("P1304: %s became %s", text, whole(l))
		}
	}
}

// TestP1304NewMemory: what is done with an answer, its spare room too, is seen neither in the list nor in another answer; nor what is done with the list afterwards.
func TestP1304NewMemory(t *testing.T) {
	for _, text := range texts() {
		l := roomy(text)
		first, _ := moves.Order(l, reg(9))
		second, e := moves.Order(l, reg(9))
		want := tell(second)
		spare := first[:cap(first)]
		for i := range spare {
			spare[i] = api.Move{To: reg(77), From: num(77)}
		}
		if whole(l) != whole(roomy(text)) || tell(second) != want {
			t.Errorf("P1304: %s: an answer is not new memory", text)
		}
		clear(l[:cap(l)])
		if tell(second) != want {
			t.Errorf("P1304: %s: an answer changed with the list", text)
		}
		if is, again := moves.Order(read(text), reg(9)); again != e || tell(is) != want {
			t.Errorf("P1304: %s: %s, and then %s", text, want, tell(is))
		}
	}
}

// TestP1304Grown: two answers that grow don't write into each other.
func TestP1304Grown(t *testing.T) {
	l := roomy("r0 r1, r1 r0, r2 r0, r3 r3")
	a, _ := moves.Order(l, reg(9))
	b, _ := moves.Order(l, reg(9))
	a = append(a, read("s1 1, s2 2, s3 3, s4 4")...)
	b = append(b, read("s5 5, s6 6, s7 7, s8 8")...)
	const same = "r2 r0, r9 r1, r1 r0, r0 r9, "
	if tell(a) != same+"s1 1, s2 2, s3 3, s4 4" || tell(b) != same+"s5 5, s6 6, s7 7, s8 8" {
		t.Errorf("P1304: grown: %s; %s", tell(a), tell(b))
	}
	if whole(l) != whole(roomy("r0 r1, r1 r0, r2 r0, r3 r3")) {
		t.Errorf("P1304: the list: %s", whole(l))
	}
}

// TestP1304Fed: an answer may be handed in again.
func TestP1304Fed(t *testing.T) {
	l := read("r0 r1, r1 r2, r2 r3")
	for range 3 {
		is, e := moves.Order(l, reg(9))
		if e != api.OK || !slices.Equal(is, l) {
			t.Fatalf("P1304: %s: %d, %s", tell(l), e, tell(is))
		}
		l = is
	}
}
