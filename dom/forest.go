package dom

// forest finds immediate dominators as Lengauer and Tarjan do, so that no list of blocks takes long, whatever its shape: the places are taken from the last to the first, and each hangs on the place from which the walk met it, once it was taken.
//
// A place's door is the least place from which there is a way to it whose inner places are all greater than it.
type forest struct {
	door []int
	up   []int // a place above, not always the next one; -1: this one does not hang as yet
	best []int // from here up to where up leads, up itself left out: the place with the least door
}

func newForest(n int) *forest {
	f := &forest{door: make([]int, n), up: make([]int, n), best: make([]int, n)}
	for at := range n {
		f.door[at], f.up[at], f.best[at] = at, -1, at
	}
	return f
}

// dominators tells for each place but the first its immediate dominator.
func dominators(w *walk, from [][]int) []int {
	n := len(w.blocks)
	f := newForest(n)
	over := make([]int, n)
	waits := map[int][]int{} // by their door: places whose way from there on does not hang as yet
	for at := n - 1; at > 0; at-- {
		for _, before := range from[at] {
			f.door[at] = min(f.door[at], f.door[f.least(before)])
		}
		waits[f.door[at]] = append(waits[f.door[at]], at)
		above := w.met[at]
		f.up[at] = above
		for _, low := range waits[above] {
			over[low] = f.leastBelow(low, above)
		}
		delete(waits, above)
	}
	for at := 1; at < n; at++ {
		if over[at] != f.door[at] {
			over[at] = over[over[at]]
		}
	}
	return over
}

// leastBelow tells low's immediate dominator, if no place between has a lesser door than low; else a place between that has the same one.
func (f *forest) leastBelow(low, door int) int {
	if between := f.least(low); f.door[between] < f.door[low] {
		return between
	}
	return door
}

// least tells, of the places from this one up to the last that hangs, the one with the least door; a place that does not hang itself.
func (f *forest) least(at int) int {
	if f.up[at] < 0 {
		return at
	}
	f.shorten(at)
	return f.best[at]
}

// shorten lets each place from this one up lead to the root at once, so that the same way is never gone twice.
func (f *forest) shorten(at int) {
	var way []int
	for f.up[f.up[at]] >= 0 {
		way = append(way, at)
		at = f.up[at]
	}
	for i := len(way) - 1; i >= 0; i-- {
		low := way[i]
		above := f.up[low]
		if f.door[f.best[above]] < f.door[f.best[low]] {
			f.best[low] = f.best[above]
		}
		f.up[low] = f.up[above]
	}
}
