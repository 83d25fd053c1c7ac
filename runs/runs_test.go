package runs_test

import (
	"math"
	"testing"

	"quern/api"
	"quern/runs"
	"quern/sample"
)

func TestEndings(t *testing.T) {
	for _, x := range []struct {
		end  func(r *runs.Told)
		want string
		over bool
	}{
		{func(r *runs.Told) {}, "running 1 0 0", false},
		{(*runs.Told).Exit, "exit 1 0 0", true},
		{func(r *runs.Told) { r.Panic(api.PanicUser, -7) }, "panic user -7 1 0 0", true},
		{func(r *runs.Told) { r.Panic(api.PanicHeap, 0) }, "panic heap 1 0 0", true},
		{func(r *runs.Told) { r.Stuck(api.StuckBool) }, "stuck bool 1 0 0", true},
		{func(r *runs.Told) { r.Words(9) }, "running 1 9 0", false},
		{func(r *runs.Told) { r.Deep(3); r.Deep(2) }, "running 1 0 3", false},
		{func(r *runs.Told) { r.Event(api.EventInt, 5); r.Event(api.EventBool, 1) }, "5 true running 1 0 0", false},
	} {
		r := &runs.Told{}
		if r.Over() || sample.Told(r.Outcome()) != "running 0 0 0" {
			t.Fatalf("at the beginning: %s", sample.Told(r.Outcome()))
		}
		x.end(r)
		if !r.Made() || r.Over() != x.over || sample.Told(r.Outcome()) != x.want {
			t.Errorf("%s, want %s", sample.Told(r.Outcome()), x.want)
		}
	}
}

func TestRests(t *testing.T) {
	r := &runs.Told{}
	for i := range api.MaxEvents {
		if !r.Event(api.EventInt, i) || r.Over() || !r.Made() {
			t.Fatalf("the event %d", i)
		}
	}
	if !r.Made() || r.Over() {
		t.Error("a step without an event behind the last event")
	}
	if r.Event(api.EventBool, 0) || !r.Over() || r.Made() {
		t.Error("one event too many")
	}
	if o := r.Outcome(); o.End != api.Running || o.Steps != api.MaxEvents+1 || len(o.Events) != api.MaxEvents {
		t.Errorf("at rest: End %d, %d steps, %d events", o.End, o.Steps, len(o.Events))
	}
}

func TestRun(t *testing.T) {
	r := &runs.Told{}
	made := 0
	step := func() bool {
		if made == 10 {
			return false
		}
		made++
		return r.Made()
	}
	for _, fuel := range []int{-1, math.MinInt, api.MaxFuel + 1, math.MaxInt} {
		if o, err := r.Run(fuel, step); err != api.ErrFuel || made != 0 || sample.Told(o) != "running 0 0 0" {
			t.Errorf("Run(%d): %v, %d steps", fuel, err, made)
		}
	}
	for _, x := range []struct{ fuel, steps int }{{0, 0}, {3, 3}, {0, 3}, {1, 4}, {api.MaxFuel, 10}, {1, 10}} {
		if o, err := r.Run(x.fuel, step); err != api.OK || made != x.steps || o.Steps != x.steps {
			t.Errorf("Run(%d): %v, %d steps, %d told", x.fuel, err, made, o.Steps)
		}
	}
}

func TestOutcomesAreNewMemory(t *testing.T) {
	r := &runs.Told{}
	r.Event(api.EventInt, 1)
	a, b := r.Outcome(), r.Outcome()
	_ = append(a.Events, api.Event{Kind: 9})
	clear(a.Events)
	if sample.Told(b) != "1 running 0 0 0" || sample.Told(r.Outcome()) != "1 running 0 0 0" {
		t.Error("an outcome that was written over is to be seen")
	}
	r.Event(api.EventInt, 2)
	if sample.Told(b) != "1 running 0 0 0" {
		t.Error("an outcome goes on with the run")
	}
}
