package moves_test

import (
	"slices"
	"strconv"
	"strings"
	"testing"

	"quern/api"
	"quern/moves"
)

func reg(n int) api.Loc  { return api.Loc{Kind: api.LocReg, N: n} }
func slot(n int) api.Loc { return api.Loc{Kind: api.LocSlot, N: n} }
func num(n int) api.Loc  { return api.Loc{Kind: api.LocNum, N: n} }

// at reads r0, s0, 7.
func at(text string) api.Loc {
	kind := api.LocNum
	switch text[0] {
	case 'r':
		kind, text = api.LocReg, text[1:]
	case 's':
		kind, text = api.LocSlot, text[1:]
	}
	n, err := strconv.Atoi(text)
	if err != nil {
		panic(err)
	}
	return api.Loc{Kind: kind, N: n}
}

// read reads moves as the chapter writes them: r0 r1, s0 7.
func read(text string) (l []api.Move) {
	for _, part := range strings.Split(text, ",") {
		if words := strings.Fields(part); len(words) == 2 {
			l = append(l, api.Move{To: at(words[0]), From: at(words[1])})
		} else if len(words) != 0 {
			panic(text)
		}
	}
	return l
}

func tellAt(l api.Loc) string {
	switch l.Kind {
	case api.LocReg:
		return "r" + strconv.Itoa(l.N)
	case api.LocSlot:
		return "s" + strconv.Itoa(l.N)
	case api.LocNum:
		return strconv.Itoa(l.N)
	}
	return "(" + strconv.Itoa(l.Kind) + " " + strconv.Itoa(l.N) + ")"
}

func tell(l []api.Move) string {
	var parts []string
	for _, m := range l {
		parts = append(parts, tellAt(m.To)+" "+tellAt(m.From))
	}
	return strings.Join(parts, ", ")
}

// row: moves, and those that do the same one behind the other, with temp r9.
type row struct{ moves, want string }

func holdRows(t *testing.T, promise string, rows []row) {
	t.Helper()
	for _, x := range rows {
		is, e := moves.Order(read(x.moves), reg(9))
		if e != api.OK || tell(is) != x.want {
			t.Errorf("%s: %s: %d, %s; want %s", promise, x.moves, e, tell(is), x.want)
		}
		if len(is) == 0 && is != nil {
			t.Errorf("%s: %s: an empty list that is not nil", promise, x.moves)
		}
	}
}

func TestExamples(t *testing.T) {
	holdRows(t, "examples", []row{
		{"", ""},
		{"r0 r0", ""},
		{"r0 r1, r1 r2", "r0 r1, r1 r2"},
		{"r1 r0, r2 r1", "r2 r1, r1 r0"},
		{"r0 r1, r1 r0", "r9 r1, r1 r0, r0 r9"},
		{"r0 r1, r1 r0, s0 r0, r3 7", "s0 r0, r3 7, r9 r1, r1 r0, r0 r9"},
		{"r0 r1, r1 r0, r2 r3, r3 r2", "r9 r1, r1 r0, r0 r9, r9 r3, r3 r2, r2 r9"},
		{"r0 7, r1 r0", "r1 r0, r0 7"},
	})
	holdErrors(t, "examples", []refused{
		{read("r0 r1, r0 r1"), reg(9), api.ErrMovesTwice},
		{read("7 r0"), reg(9), api.ErrMovesPlace},
		{read("r9 r0"), reg(9), api.ErrMovesPlace},
		{read("r0 r9"), reg(9), api.ErrMovesPlace},
		{[]api.Move{{To: reg(0)}}, reg(9), api.ErrMovesPlace},
		{[]api.Move{{From: reg(0)}}, reg(9), api.ErrMovesPlace},
		{nil, num(7), api.ErrMovesPlace},
	})
}

func TestP1302LeftOut(t *testing.T) {
	holdRows(t, "P1302", []row{
		{"r0 r0, r1 r1, s0 s0, s1 s1", ""},
		{"s3 s3", ""},
		{"r0 r0, r1 r0, r2 r0", "r1 r0, r2 r0"},
		{"r1 r0, r0 r0", "r1 r0"},
		{"r3 r0, r0 r0, s0 r3", "s0 r3, r3 r0"},
		{"r2 r2, r0 r1, r3 r3, r1 r0, s0 s0", "r9 r1, r1 r0, r0 r9"},
		{"r0 r0, r1 r2, r2 r1, r3 r0", "r3 r0, r9 r2, r2 r1, r1 r9"},
	})
}

func TestP1302Chains(t *testing.T) {
	holdRows(t, "P1302", []row{
		{"r0 r1", "r0 r1"},
		{"r0 r1, r1 r2, r2 r3, r3 r4", "r0 r1, r1 r2, r2 r3, r3 r4"},
		{"r3 r4, r2 r3, r1 r2, r0 r1", "r0 r1, r1 r2, r2 r3, r3 r4"},
		{"r1 r2, r0 r1, r3 r4, r2 r3", "r0 r1, r1 r2, r2 r3, r3 r4"},
		{"r2 r3, r0 r1, r3 r4, r1 r2", "r0 r1, r1 r2, r2 r3, r3 r4"},
		// A move that was freed behind another one that is free waits for it; ahead of it, it goes first.
		{"r0 r1, s0 s1, r1 r2, s1 s2", "r0 r1, s0 s1, r1 r2, s1 s2"},
		{"r1 r2, r0 r1, s1 s2, s0 s1", "r0 r1, r1 r2, s0 s1, s1 s2"},
		{"r1 r2, s1 s2, r0 r1, s0 s1", "r0 r1, r1 r2, s0 s1, s1 s2"},
		{"r1 r2, s1 s2, s0 s1, r0 r1", "s0 s1, s1 s2, r0 r1, r1 r2"},
		{"r1 r2, s0 5, r0 r1, s1 6", "s0 5, r0 r1, r1 r2, s1 6"},
		{"r2 r3, r0 r1, s0 5, r1 r2, s1 6", "r0 r1, s0 5, r1 r2, r2 r3, s1 6"},
	})
}

func TestP1302ManyReaders(t *testing.T) {
	holdRows(t, "P1302", []row{
		{"r1 r0, r2 r0, s0 r0, s1 r0", "r1 r0, r2 r0, s0 r0, s1 r0"},
		{"r0 7, r1 r0, r2 r0, r3 r0", "r1 r0, r2 r0, r3 r0, r0 7"},
		{"r1 r0, r0 7, r2 r0, r3 7", "r1 r0, r2 r0, r0 7, r3 7"},
		{"r1 r0, r2 r0, r0 r3, s0 r1, s1 r1", "r2 r0, s0 r1, s1 r1, r1 r0, r0 r3"},
		{"r0 r1, r1 r0, r2 r0, r3 r0, r4 r1", "r2 r0, r3 r0, r4 r1, r9 r1, r1 r0, r0 r9"},
		{"r2 r0, r0 r1, r3 r1, r1 r0, r4 r1", "r2 r0, r3 r1, r4 r1, r9 r1, r1 r0, r0 r9"},
	})
}

func TestP1302Numbers(t *testing.T) {
	holdRows(t, "P1302", []row{
		{"r0 0, r1 1, s0 0, s1 1", "r0 0, r1 1, s0 0, s1 1"},
		{"r7 7, s7 7", "r7 7, s7 7"},
		{"r0 -9223372036854775808, r1 9223372036854775807, r2 -1", "r0 -9223372036854775808, r1 9223372036854775807, r2 -1"},
		{"r0 9, s9 9", "r0 9, s9 9"},
		{"r1 1, r0 r1, s1 r1", "r0 r1, s1 r1, r1 1"},
	})
}

// TestP1302SameN: a register, a slot and a number of one N are not the same.
func TestP1302SameN(t *testing.T) {
	holdRows(t, "P1302", []row{
		{"r0 s0", "r0 s0"},
		{"r0 s0, s0 r0", "r9 s0, s0 r0, r0 r9"},
		{"r0 s0, r1 s1", "r0 s0, r1 s1"},
		{"r0 s1, r1 s0", "r0 s1, r1 s0"},
		{"r0 s1, s1 r1, r1 s0, s0 r0", "r9 s1, s1 r1, r1 s0, s0 r0, r0 r9"},
		{"r0 r1, s1 s0", "r0 r1, s1 s0"},
		{"s9 r0, r0 s9", "r9 r0, r0 s9, s9 r9"},
	})
}

func TestP1302Circles(t *testing.T) {
	holdRows(t, "P1302", []row{
		{"r0 r1, r1 r2, r2 r0", "r9 r1, r1 r2, r2 r0, r0 r9"},
		{"r1 r0, r2 r1, r0 r2", "r9 r0, r0 r2, r2 r1, r1 r9"},
		{"r0 r1, r2 r3, r1 r2, r3 r0", "r9 r1, r1 r2, r2 r3, r3 r0, r0 r9"},
		{"r0 r1, s0 s1, r1 r0, s1 s0", "r9 r1, r1 r0, r0 r9, r9 s1, s1 s0, s0 r9"},
		{"r0 r1, s0 s1, s1 s0, r1 r0", "r9 r1, r1 r0, r0 r9, r9 s1, s1 s0, s0 r9"},
		{"s0 s1, r0 r1, r1 r2, s1 s2, r2 r0, s2 s0", "r9 s1, s1 s2, s2 s0, s0 r9, r9 r1, r1 r2, r2 r0, r0 r9"},
		// Chains that hang on a circle go first; what a circle waits for, too.
		{"r0 r1, r1 r0, s1 s0, s0 r0", "s1 s0, s0 r0, r9 r1, r1 r0, r0 r9"},
		{"s0 r0, s1 s0, r0 r1, r1 r0", "s1 s0, s0 r0, r9 r1, r1 r0, r0 r9"},
		{"r0 r1, s0 r1, r1 r2, s1 r2, r2 r0, s2 r0", "s0 r1, s1 r2, s2 r0, r9 r1, r1 r2, r2 r0, r0 r9"},
		{"r5 r6, r6 r5, r0 r0, r4 r5, r3 r4, r2 4", "r3 r4, r4 r5, r2 4, r9 r6, r6 r5, r5 r9"},
	})
}

// TestP1302Temp: any place may be the temporary.
func TestP1302Temp(t *testing.T) {
	for _, temp := range []api.Loc{reg(2), reg(1 << 62), slot(0), slot(1), slot(9)} {
		is, e := moves.Order(read("r0 r1, r1 r0"), temp)
		want := []api.Move{{To: temp, From: reg(1)}, {To: reg(1), From: reg(0)}, {To: reg(0), From: temp}}
		if e != api.OK || !slices.Equal(is, want) {
			t.Errorf("P1302: temp %s: %d, %s", tellAt(temp), e, tell(is))
		}
	}
}
