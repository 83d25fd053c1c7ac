package tower

import (
	"slices"

	"quern/api"
)

// question is what is asked of two levels side by side: all that one of them has done, the other one has done in more steps.
type question struct {
	less  api.Outcome
	more  run
	whole bool // of a run that has ended: it has taken the same words and been as deep, too
}

// agree tells whether each level is to the one above as it should be, and else the first that is not.
func (t *tower) agree() (bool, int) {
	list := t.outcomes(t.runs())
	for level := levelBuilt; level < levels; level++ {
		if !t.holds(level, list[level-1], list[level]) {
			return false, level
		}
	}
	return true, 0
}

// holds tells whether a level is to the one above as it should be; both outcomes are those at the script's fuel.
func (t *tower) holds(level int, above, own api.Outcome) bool {
	if own.End == api.Stuck {
		return false
	}
	questions := t.questions(level, above, own)
	var runs []run
	for _, q := range questions {
		runs = append(runs, q.more)
	}
	for i, more := range t.outcomes(runs) {
		if !questions[i].holds(more) {
			return false
		}
	}
	return true
}

// questions are those of P2504 that are asked: the level does only, and does all, that the one above does.
func (t *tower) questions(level int, above, own api.Outcome) []question {
	var list []question
	a, b := t.numbers(level)
	if steps := t.steps(a); steps <= api.MaxFuel {
		list = append(list, question{less: own, more: run{level - 1, steps, t.Limits}})
	}
	limits := t.Limits
	if level == levelR16 {
		limits = t.room(above)
	}
	if steps := t.steps(b); steps <= api.MaxFuel && above.Words != api.MaxWords && allowed(limits) {
		list = append(list, question{less: above, more: run{level, steps, limits}, whole: true})
	}
	return list
}

// steps are so many for each of the script's, and for one more; or more than a fuel may be.
func (t *tower) steps(each int) int {
	if t.Fuel+1 > api.MaxFuel/each { // their product could leave int64
		return api.MaxFuel + 1
	}
	return (t.Fuel + 1) * each
}

// room is as much as the machine wants at most for what that run did.
func (t *tower) room(o api.Outcome) api.Limits {
	frame := 0
	for _, r := range t.program.Reports {
		frame = max(frame, r.Frame)
	}
	return api.Limits{Stack: max(o.Depth, 1) * frame, Heap: o.Words}
}

func (q question) holds(more api.Outcome) bool {
	return begins(more.Events, q.less.Events) && (!ended(q.less) || q.sameEnd(more))
}

func (q question) sameEnd(more api.Outcome) bool {
	o := q.less
	same := more.End == o.End && more.Kind == o.Kind && more.Value == o.Value && len(more.Events) == len(o.Events)
	return same && (!q.whole || more.Words == o.Words && more.Depth == o.Depth)
}

// begins tells whether a list begins with another one.
func begins(list, with []api.Event) bool {
	return len(list) >= len(with) && slices.Equal(list[:len(with)], with)
}

// ended tells whether a run has ended by what its program does, not for want of room.
func ended(o api.Outcome) bool {
	return o.End == api.Exit || o.End == api.Panic && o.Kind != api.PanicStack && o.Kind != api.PanicHeap
}
