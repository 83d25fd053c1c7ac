package sample

import (
	"strconv"
	"strings"

	"quern/api"
)

// Told is an outcome in words: its events; its ending; its steps, words and depth.
func Told(o api.Outcome) string {
	var b strings.Builder
	for _, e := range o.Events {
		switch {
		case e.Kind == api.EventInt:
			b.WriteString(strconv.Itoa(e.Value))
		case e == api.Event{Kind: api.EventBool, Value: 0}:
			b.WriteString("false")
		case e == api.Event{Kind: api.EventBool, Value: 1}:
			b.WriteString("true")
		default:
			b.WriteString("?")
		}
		b.WriteString(" ")
	}
	b.WriteString(Ending(o))
	return b.String() + numbers(" ", []int{o.Steps, o.Words, o.Depth})
}

// Ending is how a run has ended, in words.
func Ending(o api.Outcome) string {
	kind, value := " kind "+strconv.Itoa(o.Kind), " value "+strconv.Itoa(o.Value)
	switch {
	case o.End == api.Panic && o.Kind >= api.PanicDivide && o.Kind <= api.PanicHeap:
		kind = []string{"", " divide", " index", " shift", " make", " input", " user", " stack", " heap"}[o.Kind]
		if o.Kind == api.PanicUser {
			value = " " + strconv.Itoa(o.Value)
		} else if o.Value == 0 {
			value = ""
		}
	case o.End == api.Stuck && o.Value == 0 && o.Kind >= api.StuckBlock && o.Kind <= api.StuckBool:
		kind, value = []string{"", " block", " element", " zero", " shift", " bool"}[o.Kind], ""
	case (o.End == api.Running || o.End == api.Exit) && o.Kind == 0 && o.Value == 0:
		kind, value = "", ""
	}
	return []string{"running", "exit", "panic", "stuck"}[o.End] + kind + value
}
