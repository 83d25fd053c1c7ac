package moves_test

import (
	"slices"
	"testing"

	"quern/api"
	"quern/moves"
	"quern/sample"
)

// byTheWords does what P1302 says, word by word.
func byTheWords(l []api.Move, temp api.Loc) (out []api.Move) {
	var left []api.Move
	for _, m := range l {
		if m.From != m.To {
			left = append(left, m)
		}
	}
	for len(left) > 0 {
		free := slices.IndexFunc(left, func(m api.Move) bool {
			return !slices.ContainsFunc(left, func(other api.Move) bool { return other.From == m.To })
		})
		if free >= 0 {
			out = append(out, left[free])
			left = slices.Delete(left, free, free+1)
		} else {
			out = append(out, api.Move{To: temp, From: left[0].From})
			left[0].From = temp
		}
	}
	return out
}

// holds: what each place holds; those that it does not name hold what tells them apart from all others.
type holds map[api.Loc]int

func (h holds) at(l api.Loc) int {
	if l.Kind == api.LocNum {
		return l.N
	}
	if n, set := h[l]; set {
		return n
	}
	return 1_000_000*l.Kind + l.N
}

// circles counts them, by going from each move to what it reads.
func circles(l []api.Move) (count int) {
	sets := map[api.Loc]api.Move{}
	for _, m := range l {
		sets[m.To] = m
	}
	met := map[api.Loc]int{} // the turn in which it was met
	for turn, m := range l {
		at := m
		for met[at.To] == 0 && at.From != at.To {
			met[at.To] = turn + 1
			next, set := sets[at.From]
			if !set {
				break
			}
			if met[next.To] == turn+1 {
				count++
			}
			at = next
		}
	}
	return count
}

// holdDone holds what is answered against P1303.
func holdDone(t *testing.T, l []api.Move, temp api.Loc, out []api.Move) {
	t.Helper()
	once, behind := holds{}, holds{}
	stay := 0
	for _, m := range l {
		once[m.To] = holds{}.at(m.From)
		if m.From == m.To {
			stay++
		}
	}
	for _, m := range out {
		behind[m.To] = behind.at(m.From)
	}
	for _, m := range slices.Concat(l, out) {
		if is, want := behind.at(m.To), once.at(m.To); is != want && m.To != temp {
			t.Fatalf("P1303: %s: %s: %s holds %d, want %d", tell(l), tell(out), tellAt(m.To), is, want)
		}
	}
	if want := len(l) - stay + circles(l); len(out) != want {
		t.Fatalf("P1303: %s: %s: %d moves, want %d", tell(l), tell(out), len(out), want)
	}
}

// wantError: as P1301 says it.
func wantError(l []api.Move, temp api.Loc) api.Errno {
	e := api.OK
	met := map[api.Loc]int{}
	for _, m := range l {
		met[m.To]++
		if met[m.To] > 1 {
			e = api.ErrMovesTwice
		}
	}
	for _, m := range l {
		if !isPlace(m.To) || !isPlace(m.From) && m.From.Kind != 3 || m.To == temp || m.From == temp {
			return api.ErrMovesPlace
		}
	}
	if !isPlace(temp) {
		return api.ErrMovesPlace
	}
	return e
}

func holdAll(t *testing.T, l []api.Move, temp api.Loc) {
	t.Helper()
	is, e := moves.Order(l, temp)
	if want := wantError(l, temp); e != want {
		t.Fatalf("P1301: %s, temp %s: %d, want %d", tell(l), tellAt(temp), e, want)
	}
	if e != api.OK {
		if is != nil {
			t.Fatalf("P1301: %s: %d, and moves", tell(l), e)
		}
		return
	}
	if want := byTheWords(l, temp); !slices.Equal(is, want) {
		t.Fatalf("P1302: %s: %s, want %s", tell(l), tell(is), tell(want))
	}
	holdDone(t, l, temp, is)
}

// TestAllShort: every list of up to four moves among four places, and of those that are refused the short ones.
func TestAllShort(t *testing.T) {
	var each []api.Move
	for _, to := range []api.Loc{reg(0), reg(1), slot(0), slot(1)} {
		for _, from := range []api.Loc{reg(0), reg(1), slot(0), slot(1), num(1)} {
			each = append(each, api.Move{To: to, From: from})
		}
	}
	lists := [][]api.Move{nil}
	for at := 0; at < len(lists); at++ {
		l := lists[at]
		holdAll(t, l, reg(9))
		if len(l) < 3 {
			holdAll(t, l, slot(1))
			holdAll(t, l, num(1))
		}
		if len(l) < 4 && wantError(l, reg(9)) == api.OK {
			for _, m := range each {
				lists = append(lists, append(slices.Clip(l), m))
			}
		}
	}
}

// drawn draws moves with unlike places: the fewer of them there are for the moves, the more circles.
func drawn(d *sample.Dice) (l []api.Move) {
	n := 1 + d.Below(24)
	places := make([]api.Loc, n)
	for i := range places {
		places[i] = api.Loc{Kind: 1 + i%2, N: i / 2}
	}
	to, from := mixed(d, places), mixed(d, places)
	loose := d.Below(6) // out of 6: how often anything is read
	for i := range to[:n-d.Below(1+n/2)] {
		m := api.Move{To: to[i], From: from[i]}
		if d.Below(6) < loose {
			m.From = places[d.Below(n)]
		}
		if d.Below(12) == 0 {
			m.From = num(d.Number())
		}
		l = append(l, m)
	}
	return l
}

func mixed[T any](d *sample.Dice, list []T) []T {
	list = slices.Clone(list)
	for i := range list {
		j := d.Below(i + 1)
		list[i], list[j] = list[j], list[i]
	}
	return list
}

func TestDrawn(t *testing.T) {
	d := sample.Dice(1313)
	round, wrong := 0, 0
	for range 20_000 {
		l := drawn(&d)
		temp := api.Loc{Kind: 1 + d.Below(2), N: 20 + d.Below(3)}
		if d.Below(20) == 0 {
			l[d.Below(len(l))].To = l[d.Below(len(l))].From
		}
		if d.Below(20) == 0 {
			temp = l[d.Below(len(l))].From
		}
		holdAll(t, l, temp)
		round += min(circles(l), 2)
		if wantError(l, temp) != api.OK {
			wrong++
		}
	}
	if round < 5000 || wrong < 1000 {
		t.Errorf("drawn: %d circles, %d lists that are refused", round, wrong)
	}
}
