package live_test

import (
	"slices"
	"testing"

	"quern/api"
	"quern/sample"
)

// point is ahead of an instruction of a block, or, behind all of these, of its Term.
type point struct{ block, at int }

// does tells what is read and what is set at a point; -1: nothing.
func does(f api.LFunc, p point) (reads []int, sets int) {
	b := f.Blocks[p.block]
	switch {
	case p.at < len(b.Body):
		return b.Body[p.at].Args, b.Body[p.at].Dst
	case b.Term.Value != -1:
		return []int{b.Term.Value}, -1
	}
	return nil, -1
}

// follow are the points that come next.
func follow(f api.LFunc, p point) (list []point) {
	if p.at < len(f.Blocks[p.block].Body) {
		return []point{{p.block, p.at + 1}}
	}
	for _, to := range f.Blocks[p.block].Term.To {
		list = append(list, point{to, 0})
	}
	return list
}

// isLiveAhead goes all ways from a point and looks whether the register is read ahead of being set: P1701, word by word.
func isLiveAhead(f api.LFunc, register int, from point) bool {
	met := map[point]struct{}{}
	for todo := []point{from}; len(todo) > 0; {
		p := todo[0]
		todo = todo[1:]
		if _, was := met[p]; was {
			continue
		}
		met[p] = struct{}{}
		reads, sets := does(f, p)
		if slices.Contains(reads, register) {
			return true
		}
		if sets != register {
			todo = append(todo, follow(f, p)...)
		}
	}
	return false
}

func isLiveBehind(f api.LFunc, register int, p point) bool {
	return slices.ContainsFunc(follow(f, p), func(next point) bool { return isLiveAhead(f, register, next) })
}

// oracleLive is P1702.
func oracleLive(f api.LFunc) (ahead, behind [][]int) {
	for b, block := range f.Blocks {
		var before, after []int
		for r := range f.Regs {
			if isLiveAhead(f, r, point{b, 0}) {
				before = append(before, r)
			}
			if isLiveBehind(f, r, point{b, len(block.Body)}) {
				after = append(after, r)
			}
		}
		ahead, behind = append(ahead, before), append(behind, after)
	}
	return ahead, behind
}

// places are what a register does along a line.
type places struct{ set, read, live []int }

// placesOf is P1703.
func placesOf(f api.LFunc, line []int, register int) (is places) {
	if slices.Contains(f.Params, register) {
		is.set = append(is.set, 0)
	}
	k := 1
	for _, b := range line {
		for at := range len(f.Blocks[b].Body) + 1 {
			p := point{b, at}
			reads, sets := does(f, p)
			if slices.Contains(reads, register) {
				is.read = append(is.read, 2*k)
			}
			if sets == register {
				is.set = append(is.set, 2*k+1)
			}
			if isLiveAhead(f, register, p) {
				is.live = append(is.live, 2*k)
			}
			if isLiveBehind(f, register, p) {
				is.live = append(is.live, 2*k+1)
			}
			k++
		}
	}
	return is
}

// oracleIntervals is P1704.
func oracleIntervals(f api.LFunc, line []int) (list []api.Interval) {
	for r := range f.Regs {
		is := placesOf(f, line, r)
		if len(is.set)+len(is.read) == 0 {
			continue
		}
		from := slices.Min(append(slices.Clone(is.set), is.live...))
		to := slices.Max(slices.Concat(is.set, is.read, is.live))
		at := 0
		for at < len(list) && list[at].From <= from { // those of the same From are of smaller numbers
			at++
		}
		list = slices.Insert(list, at, api.Interval{Reg: r, From: from, To: to})
	}
	return list
}

// hold holds Live of a function, and Intervals in the lines, against the oracle; without a line in its blocks' order, and in that turned about.
func hold(t testing.TB, f api.LFunc, lines ...[]int) {
	t.Helper()
	ahead, behind := liveOf(t, f)
	wantAhead, wantBehind := oracleLive(f)
	if tellLists(ahead) != tellLists(wantAhead) || tellLists(behind) != tellLists(wantBehind) {
		t.Fatalf("P1702: %s\nahead %s, want %s\nbehind %s, want %s", tell(f), tellLists(ahead), tellLists(wantAhead), tellLists(behind), tellLists(wantBehind))
	}
	if len(lines) == 0 {
		line := inOrder(f)
		lines = [][]int{slices.Clone(line), line}
		slices.Reverse(line)
	}
	for _, line := range lines {
		is, want := intervalsOf(t, f, line), oracleIntervals(f, line)
		if !slices.Equal(is, want) {
			t.Fatalf("P1704: %s\nin the line %v: %s, want %s", tell(f), line, tellIntervals(is), tellIntervals(want))
		}
	}
}

func inOrder(f api.LFunc) (line []int) {
	for b := range f.Blocks {
		line = append(line, b)
	}
	return line
}

// tell writes a function; calls in it are told as calls of itself.
func tell(f api.LFunc) string {
	l := sample.SpacedLIR(api.LIR{Funcs: []api.LFunc{f}})
	for _, b := range l.Funcs[0].Blocks {
		for i := range b.Body {
			if b.Body[i].Op == api.InsCall {
				b.Body[i].Imm = 0
			}
		}
	}
	l.Funcs[0].Name = "f"
	return sample.TellLIR(l)
}
