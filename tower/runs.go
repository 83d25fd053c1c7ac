package tower

import (
	"sync"

	"quern/alir"
	"quern/api"
	"quern/lir"
	"quern/r16"
	"quern/sem"
	"quern/ssarun"
)

// The levels (DOC.md, 13), and how many there are.
const (
	levelTree = iota
	levelBuilt
	levelClean
	levelLIR
	levelALIR
	levelR16
	levels
)

// run is a run at a level of so many steps; its limits are those of R16 alone.
type run struct {
	level  int
	steps  int
	limits api.Limits
}

// runs are the script's own: one at each level.
func (t *tower) runs() []run {
	list := make([]run, levels)
	for level := range list {
		list[level] = run{level, t.Fuel, t.Limits}
	}
	return list
}

// handed is an outcome, and the place of its run among those that run beside it.
type handed struct {
	place   int
	outcome api.Outcome
}

// outcomes runs them all at a time; each outcome stands where its run stood, whichever is over first.
func (t *tower) outcomes(runs []run) []api.Outcome {
	over := make(chan handed, len(runs)) // room for all of them, so that nobody waits for being asked
	var running sync.WaitGroup
	for place, r := range runs {
		running.Add(1)
		go func() {
			defer running.Done()
			outcome, _ := t.begun(r).Run(r.steps)
			over <- handed{place, outcome}
		}()
	}
	running.Wait()
	return taken(over, len(runs))
}

// taken takes what there is: all of it, as all runs are over.
func taken(over <-chan handed, n int) []api.Outcome {
	list := make([]api.Outcome, n)
	for {
		select {
		case h := <-over:
			list[h.place] = h.outcome
		default:
			return list
		}
	}
}

// machine is a run of whatever level.
type machine interface {
	Run(fuel int) (api.Outcome, api.Errno)
}

func (t *tower) begun(r run) machine {
	switch r.level {
	case levelTree:
		return taking(sem.New(t.tree, t.Input))
	case levelBuilt:
		return taking(ssarun.New(t.built, t.Input))
	case levelClean:
		return taking(ssarun.New(t.clean, t.Input))
	case levelLIR:
		return taking(lir.New(t.lir, t.Input))
	case levelALIR:
		return taking(alir.New(t.alir, t.Input))
	}
	return taking(r16.New(t.program.Code, t.Input, r.limits))
}

// taking is the machine, or one that is stuck where a level refuses what the passes have made for it: W6 says that none does, and Holds is there to find where it is not so.
func taking(m machine, why api.Errno) machine {
	if why != api.OK {
		return stuck{}
	}
	return m
}

type stuck struct{}

func (stuck) Run(int) (api.Outcome, api.Errno) { return api.Outcome{End: api.Stuck}, api.OK }
