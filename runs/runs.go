// Package runs: what the runs of all levels have in common: see DOC.md, rules 9 and 10.
package runs

import (
	"slices"

	"quern/api"
)

// Told is what a run has told so far, and whether it goes on. It begins as a run of no step.
type Told struct {
	outcome api.Outcome
	rests   bool
}

// Over tells whether there is no step to make any more.
func (t *Told) Over() bool { return t.rests || t.outcome.End != api.Running }

// Made counts the step at hand; false: it was none, as the run came to rest by it.
func (t *Told) Made() bool {
	if t.rests {
		return false
	}
	t.outcome.Steps++
	return true
}

// Run makes up to so many steps, and tells the outcome.
func (t *Told) Run(fuel int, step func() bool) (api.Outcome, api.Errno) {
	if fuel < 0 || fuel > api.MaxFuel {
		return api.Outcome{}, api.ErrFuel
	}
	for fuel > 0 && step() {
		fuel--
	}
	return t.Outcome(), api.OK
}

// Outcome tells all of it, in new memory.
func (t *Told) Outcome() api.Outcome {
	outcome := t.outcome
	outcome.Events = slices.Clone(outcome.Events)
	return outcome
}

// Event tells an event; false: no more of them may be told, and the run rests.
func (t *Told) Event(kind, value int) bool {
	if len(t.outcome.Events) == api.MaxEvents {
		t.rests = true
		return false
	}
	t.outcome.Events = append(t.outcome.Events, api.Event{Kind: kind, Value: value})
	return true
}

// Exit ends the run as its first activation ends.
func (t *Told) Exit() { t.outcome.End = api.Exit }

// Panic ends the run with a panic; of a trap the value is 0.
func (t *Told) Panic(kind, value int) {
	t.outcome.End, t.outcome.Kind, t.outcome.Value = api.Panic, kind, value
}

// Stuck ends the run where a step can't be done.
func (t *Told) Stuck(reason int) { t.outcome.End, t.outcome.Kind = api.Stuck, reason }

// Words sets how many words of heap were taken up to now.
func (t *Told) Words(taken int) { t.outcome.Words = taken }

// Deep tells how many activations there are now.
func (t *Told) Deep(activations int) { t.outcome.Depth = max(t.outcome.Depth, activations) }
