package live

import "quern/order"

// queue is blocks that wait. The one that stands last in a line along the ways is taken first: so, but for circles, each is taken behind all that it leads to.
type queue struct {
	line    []int
	stands  []int // where each block stands in the line
	waiting row   // of places in the line
	most    int   // no greater one waits
}

func queueOf(to [][]int) queue {
	line := lineOf(to)
	q := queue{line: line, stands: make([]int, len(line)), waiting: rowFor(len(line))}
	for i, b := range line {
		q.stands[b] = i
	}
	return q
}

// lineOf puts all blocks in a line, those that can't be reached as well: they stand in it behind one that leads to all of them, to block 0 first.
func lineOf(to [][]int) []int {
	all := make([][]int, len(to)+1)
	for b := range to {
		all[0] = append(all[0], len(to)-b)
		for _, next := range to[b] {
			all[b+1] = append(all[b+1], next+1)
		}
	}
	line := order.Line(all)[1:]
	for i := range line {
		line[i]--
	}
	return line
}

func (q *queue) put(block int) {
	q.waiting.put(q.stands[block])
	q.most = max(q.most, q.stands[block])
}

// take takes a block; false: there is none.
func (q *queue) take() (int, bool) {
	last := q.waiting.last(q.most)
	if last < 0 {
		q.most = 0
		return 0, false
	}
	q.waiting.drop(last)
	q.most = last
	return q.line[last], true
}
