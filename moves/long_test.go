package moves_test

import (
	"slices"
	"testing"

	"quern/api"
	"quern/moves"
	"quern/sample"
)

const many = 300_000

// chain is r0 r1, r1 r2 and so on.
func chain(n int) []api.Move {
	l := make([]api.Move, n)
	for i := range l {
		l[i] = api.Move{To: reg(i), From: reg(i + 1)}
	}
	return l
}

// circle is a chain whose last move reads what its first one sets.
func circle(n int) []api.Move {
	l := chain(n)
	l[n-1].From = reg(0)
	return l
}

func turned(l []api.Move) []api.Move {
	l = slices.Clone(l)
	slices.Reverse(l)
	return l
}

func holdLong(t *testing.T, name string, l, want []api.Move) {
	t.Helper()
	is, e := moves.Order(l, slot(0))
	if e != api.OK || !slices.Equal(is, want) {
		t.Errorf("P1302: %s: %d, %d moves that are others than %d", name, e, len(is), len(want))
	}
}

func TestLongChains(t *testing.T) {
	d := sample.Dice(7)
	l := chain(many)
	holdLong(t, "a chain", l, l)
	holdLong(t, "a chain, from its end", turned(l), l)
	holdLong(t, "a chain in any order", mixed(&d, l), l)
	rest := make([]api.Move, many)
	for i := range rest {
		rest[i] = api.Move{To: slot(1 + i), From: reg(0)}
	}
	last := api.Move{To: reg(0), From: num(3)}
	holdLong(t, "one place for all", append([]api.Move{last}, rest...), append(slices.Clone(rest), last))
	for i := range rest {
		rest[i].From = rest[i].To
	}
	holdLong(t, "what stays", rest, nil)
}

func TestLongCircles(t *testing.T) {
	d := sample.Dice(8)
	ring := circle(many)
	temp := slot(0)
	want := slices.Concat([]api.Move{{To: temp, From: reg(1)}}, ring[1:], []api.Move{{To: reg(0), From: temp}})
	holdLong(t, "a circle", ring, want)
	holdLong(t, "a circle in any order", slices.Concat(ring[:1], mixed(&d, ring[1:])), want)
	back := slices.Concat([]api.Move{{To: temp, From: reg(0)}}, ring[:many-1], []api.Move{{To: reg(many - 1), From: temp}})
	holdLong(t, "a circle, from its end", turned(ring), back)
	hang := make([]api.Move, many)
	for i := range hang {
		hang[i] = api.Move{To: slot(1 + i), From: reg(i)}
	}
	holdLong(t, "a circle on each of whose places a move hangs", slices.Concat(ring, hang), slices.Concat(hang, want))
	holdLong(t, "the same, hung from its end", slices.Concat(ring, turned(hang)), slices.Concat(turned(hang), want))
}

func TestLongManyCircles(t *testing.T) {
	var l, far, want []api.Move
	temp := slot(0)
	for i := range many / 2 {
		a, b := reg(2*i), reg(2*i+1)
		l = append(l, api.Move{To: a, From: b})
		far = append(far, api.Move{To: b, From: a})
		want = append(want, api.Move{To: temp, From: b}, api.Move{To: b, From: a}, api.Move{To: a, From: temp})
	}
	holdLong(t, "circles of two", slices.Concat(l, far), want)
	holdLong(t, "circles of two, turned", slices.Concat(l, turned(far)), want)
}
