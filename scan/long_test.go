package scan_test

import (
	"runtime/debug"
	"testing"

	"quern/api"
	"quern/sample"
	"quern/scan"
)

const most = api.MaxRegs

// shallow lets no call be deep until what it answers is called.
func shallow() func() {
	was := debug.SetMaxStack(1 << 18)
	return func() { debug.SetMaxStack(was) }
}

// longOf is as many intervals as there can be: those of the closure, of each Reg.
func longOf(of func(i int) api.Interval) []api.Interval {
	l := make([]api.Interval, most)
	for i := range l {
		l[i] = of(i)
	}
	return l
}

// holdLong holds the places of a long list, by Reg, and how many slots there are.
func holdLong(t *testing.T, name string, l []api.Interval, regs, slots int, want func(r int) api.Loc) {
	t.Helper()
	defer shallow()()
	places, count, e := scan.Scan(l, regs)
	if e != api.OK || count != slots || len(places) != most {
		t.Fatalf("P1803: %s with %d: %v, %d slots, %d places; want %d slots", name, regs, e, count, len(places), slots)
	}
	for r, is := range places {
		if is != want(r) {
			t.Fatalf("P1802: %s with %d: %d is at %v, want %v", name, regs, r, is, want(r))
		}
	}
	holdWords(t, l, regs)
}

// TestLongChains: each ends where as many as there are registers have begun; or where one more has.
func TestLongChains(t *testing.T) {
	for _, regs := range []int{1, 2, 3, api.Allocated} {
		l := longOf(func(i int) api.Interval { return api.Interval{Reg: i, From: i, To: i + regs - 1} })
		holdLong(t, "a chain", l, regs, 0, func(r int) api.Loc { return reg(r % regs) })
		l = longOf(func(i int) api.Interval { return api.Interval{Reg: most - 1 - i, From: i, To: i + regs - 1} })
		holdLong(t, "a chain, Regs falling", l, regs, 0, func(r int) api.Loc { return reg((most - 1 - r) % regs) })
		// Of each row of regs + 1 the last one finds no register free, and ends last.
		l = longOf(func(i int) api.Interval { return api.Interval{Reg: i, From: i, To: i + regs} })
		holdLong(t, "a chain that is too close", l, regs, most/(regs+1), func(r int) api.Loc {
			if r%(regs+1) == regs {
				return slot(r / (regs + 1))
			}
			return reg(r % (regs + 1))
		})
	}
}

// TestLongMeeting: all meet. Those that end first keep the registers.
func TestLongMeeting(t *testing.T) {
	for _, regs := range []int{1, 5, api.Allocated} {
		first := func(r int) api.Loc {
			if r < regs {
				return reg(r)
			}
			return slot(r - regs)
		}
		l := longOf(func(i int) api.Interval { return api.Interval{Reg: i, From: 7, To: 8} })
		holdLong(t, "all the same", l, regs, most-regs, first)
		l = longOf(func(i int) api.Interval { return api.Interval{Reg: i, From: i, To: most + i} })
		holdLong(t, "each ends later", l, regs, most-regs, first)
		l = longOf(func(i int) api.Interval { return api.Interval{Reg: i, From: i, To: 2*most - i} })
		holdLong(t, "each in the one ahead of it", l, regs, most-regs, func(r int) api.Loc {
			if r < most-regs {
				return slot(r)
			}
			return reg(r % regs)
		})
		l = longOf(func(i int) api.Interval { return api.Interval{Reg: most - 1 - i, From: i, To: most} })
		holdLong(t, "all end at one place, Regs falling", l, regs, most-regs, func(r int) api.Loc {
			if r >= regs {
				return slot(most - 1 - r)
			}
			return reg((most - 1 - r) % regs)
		})
	}
}

// TestLongPairs: a long one, with very many short ones one behind the other beside it.
func TestLongPairs(t *testing.T) {
	l := longOf(func(i int) api.Interval { return api.Interval{Reg: i, From: i, To: i} })
	l[0].To = most
	holdLong(t, "short ones beside a long one", l, 2, 0, func(r int) api.Loc { return reg(min(r, 1)) })
	holdLong(t, "short ones in place of a long one", l, 1, 1, func(r int) api.Loc {
		if r == 0 {
			return slot(0)
		}
		return reg(0)
	})
}

func TestLongDrawn(t *testing.T) {
	d := sample.Dice(262144)
	for _, long := range []int{4, 12, 40, 1000, 4 * most} {
		var l []api.Interval
		for _, r := range mixed(&d, most) {
			from := d.Below(2*most) - most
			l = append(l, api.Interval{Reg: r, From: from, To: from + d.Below(long)})
		}
		put(l)
		for _, regs := range []int{1, 4, api.Allocated} {
			if _, _, good := holdWords(t, l, regs); !good {
				t.Fatalf("P1801: a long list is refused")
			}
		}
	}
}

// TestLongRefused: lists that are longer than there are Regs, and long ones whose only fault is the last interval's.
func TestLongRefused(t *testing.T) {
	defer shallow()()
	l := make([]api.Interval, 4*most)
	for i := range l {
		l[i] = api.Interval{Reg: i % most, From: i, To: i}
	}
	for _, n := range []int{most + 1, 2 * most, len(l)} {
		holdRefused(t, l[:n], api.ErrScanList)
	}
	l = l[:most]
	holdRefused(t, l, api.OK)
	for _, last := range []api.Interval{
		{Reg: most, From: most, To: most}, {Reg: -1, From: most, To: most}, {Reg: 0, From: most, To: most}, {Reg: most - 2, From: most, To: most},
		{Reg: most - 1, From: most, To: most - 1}, {Reg: most - 1, From: most - 3, To: most},
	} {
		l[most-1] = last
		holdRefused(t, l, api.ErrScanList)
	}
}

func holdRefused(t *testing.T, l []api.Interval, want api.Errno) {
	t.Helper()
	places, slots, e := scan.Scan(l, 3)
	if e != want || e != api.OK && (places != nil || slots != 0) {
		t.Errorf("P1801: %d intervals, the last one %v: %v, %d places, %d slots; want %v", len(l), l[len(l)-1], e, len(places), slots, want)
	}
}
