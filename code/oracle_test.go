package code_test

import (
	"bytes"
	"encoding/binary"
	"regexp"
	"slices"
	"strings"

	"quern/api"
	"quern/sample"
)

// oracleWrite puts the parts of code together by P2201's table.
func oracleWrite(c api.Code) []byte {
	var b bytes.Buffer
	put := func(n any) { binary.Write(&b, binary.LittleEndian, n) }
	b.WriteString("qr16")
	put(uint32(len(c.Funcs)))
	put(uint32(c.Main))
	for _, f := range c.Funcs {
		put(uint8(len(f.Name)))
		b.WriteString(f.Name)
		put(uint64(f.Frame))
		put(uint32(f.Count))
		put(uint8(f.Params))
	}
	for _, x := range c.Ins {
		put(uint8(x.Op))
		for _, field := range sample.CodeFields(x.Op) {
			switch field {
			case 'A':
				put(uint8(x.A))
			case 'B':
				put(uint8(x.B))
			case 'C':
				put(uint8(x.C))
			case 'N':
				put(uint64(x.N))
			}
		}
	}
	return b.Bytes()
}

// oracle reads bytes by P2203's sentences: a field at a time, each with what is wrong with it.
type oracle struct {
	b     []byte
	at    int    // behind the last field
	value uint64 // of the last field, if it is a number
	place int    // of the fault
	what  string // of which kind the field there is
	spans []span // the fields that are right
}

// span is from where to where a field goes, and of which kind it is.
type span struct {
	from, to int
	what     string
}

// oracleRead tells the code, or the place and the kind of the field there.
func oracleRead(b []byte) (api.Code, *oracle) {
	o := &oracle{b: b, place: -1}
	c, is := o.code()
	if is && o.at < len(b) {
		o.place, o.what = o.at, "more"
	}
	if o.place >= 0 {
		return api.Code{}, o
	}
	return c, o
}

// field is the next one, unless the bytes end ahead of its end; false, where it is wrong.
func (o *oracle) field(what string, size int, wrong func(field []byte) bool) bool {
	if o.at+size > len(o.b) {
		o.place, o.what = len(o.b), "end"
		return false
	}
	field := o.b[o.at : o.at+size]
	if wrong(field) {
		o.place, o.what = o.at, what
		return false
	}
	o.spans = append(o.spans, span{o.at, o.at + size, what})
	o.at += size
	return true
}

func (o *oracle) number(what string, size int, wrong func(n uint64) bool) bool {
	return o.field(what, size, func(field []byte) bool {
		o.value = binary.LittleEndian.Uint64(append(slices.Clone(field), make([]byte, 8-size)...))
		return wrong(o.value)
	})
}

func (o *oracle) code() (c api.Code, is bool) {
	for _, want := range []byte{113, 114, 49, 54} {
		if !o.number("mark", 1, func(n uint64) bool { return n != uint64(want) }) {
			return c, false
		}
	}
	if !o.number("functions", 4, func(n uint64) bool { return n == 0 }) {
		return c, false
	}
	functions := o.value
	if !o.number("Main", 4, func(n uint64) bool { return n >= functions }) {
		return c, false
	}
	c.Main = int(o.value)
	for i := range int(functions) {
		if !o.function(&c, i == c.Main) {
			return c, false
		}
	}
	for _, f := range c.Funcs {
		for i := range f.Count {
			if !o.instruction(&c, f, i+1 == f.Count) {
				return c, false
			}
		}
	}
	return c, true
}

var namePattern = regexp.MustCompile(`^[A-Za-z_][A-Za-z0-9_]*$`)

const words = " func var if else for return break continue print panic input len make int bool true false nil "

func (o *oracle) function(c *api.Code, main bool) bool {
	var f api.RFunc
	if !o.number("length", 1, func(n uint64) bool { return n == 0 || n > 64 }) {
		return false
	}
	if !o.field("name", int(o.value), func(field []byte) bool {
		f.Name = string(field)
		ahead := slices.ContainsFunc(c.Funcs, func(g api.RFunc) bool { return g.Name == f.Name })
		return !namePattern.MatchString(f.Name) || strings.Contains(words, " "+f.Name+" ") || ahead
	}) {
		return false
	}
	if !o.number("Frame", 8, func(n uint64) bool { return n < 2 || n > 1<<40 }) {
		return false
	}
	f.Frame = int(o.value)
	if !o.number("Count", 4, func(n uint64) bool { return n == 0 }) {
		return false
	}
	f.Count = int(o.value)
	if !o.number("Params", 1, func(n uint64) bool { return n > 8 || main && n != 0 }) {
		return false
	}
	f.Params = int(o.value)
	for _, g := range c.Funcs {
		f.First += g.Count
	}
	c.Funcs = append(c.Funcs, f)
	return true
}

func (o *oracle) instruction(c *api.Code, f api.RFunc, last bool) bool {
	var x api.Ins
	if !o.number("Op", 1, func(n uint64) bool {
		return n < 1 || n > 38 || last && n != api.RJmp && n != api.RRet && n != api.RTrap
	}) {
		return false
	}
	x.Op = int(o.value)
	for _, field := range sample.CodeFields(x.Op) {
		if field == 'N' {
			if !o.number("N", 8, func(n uint64) bool { return wrongN(c, f, x.Op, int(n)) }) {
				return false
			}
			x.N = int(o.value)
			continue
		}
		if !o.number("register", 1, func(n uint64) bool { return n > 15 }) {
			return false
		}
		*map[rune]*int{'A': &x.A, 'B': &x.B, 'C': &x.C}[field] = int(o.value)
	}
	c.Ins = append(c.Ins, x)
	return true
}

func wrongN(c *api.Code, f api.RFunc, op, n int) bool {
	switch op {
	case api.RJmp, api.RBz, api.RBnz:
		return n < f.First || n >= f.First+f.Count
	case api.RLds, api.RSts:
		return n < 2 || n >= f.Frame
	case api.RCall:
		return n < 0 || n >= len(c.Funcs)
	case api.RTrapZ, api.RTrapN, api.RTrapU:
		return n < 1 || n > 5
	case api.RTrap:
		return n < 1 || n > 6
	}
	return false
}
