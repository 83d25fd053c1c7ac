package sample_test

import (
	"strings"
	"testing"

	"quern/api"
	"quern/r16"
	"quern/sample"
)

const allCode = `f(8) frame 9
0: ldi r0 -3; mov r15 r0; add r1 r2 r3; not r4 r5; bz r4 0; bnz r15 6; lds r2 8; sts r2 2; call f; call main; ret
main() frame 2
11: alloc r0 r1; len r1 r2; ldx r3 r4 r5; stx r6 r7 r8; trapz r9 1; trapn r10 2; trapu r11 r12 5; inp r13; outi r14; outb r15; trap r1 6
g(1) frame 1099511627776
22: jmp 22
`

func TestReadAndTellCode(t *testing.T) {
	c := sample.Code(allCode)
	if e := r16.Check(c); e != api.OK || c.Main != 1 || len(c.Ins) != 23 || sample.TellCode(c) != allCode {
		t.Errorf("%v, main %d:\n%s", e, c.Main, sample.TellCode(c))
	}
	want := api.RFunc{Name: "g", Frame: api.MaxStack, First: 22, Count: 1, Params: 1}
	if c.Funcs[2] != want || c.Ins[17] != (api.Ins{Op: api.RTrapU, A: 11, B: 12, N: 5}) || c.Ins[9] != (api.Ins{Op: api.RCall, N: 1}) {
		t.Errorf("%+v", c)
	}
	if is, want := sample.TellCode(sample.Code("main()\n0: sts r1 7; ret\n2: ret\nf()\n3: ret")), "main() frame 8\n0: sts r1 7; ret; ret\nf() frame 2\n3: ret\n"; is != want {
		t.Errorf("%s, want %s", is, want)
	}
	for _, text := range []string{"main()\n0: nothing", "main()\n0: ldi r1", "main()\n0: ldi 1 r1", "main()\n0: ret r1", "main()\n0: mov r1 2; ret", "main()\n0: call g; ret", "main()\n1: ret", "main()\n0: ret\n2: ret",
		"main() int\n0: ret", "main() slots 3\n0: ret", "main(r1)\n0: ret"} {
		func() {
			defer func() {
				if recover() == nil {
					t.Errorf("%s is read", text)
				}
			}()
			sample.Code(text)
		}()
	}
}

func TestCodeFields(t *testing.T) {
	for op, want := range map[int]string{api.RLdi: "AN", api.RMov: "AB", api.RLe: "ABC", api.RTrapU: "ABN", api.RRet: "", api.RJmp: "N", api.ROutB: "A", 0: "", -1: "", 39: "", 1 << 40: ""} {
		if is := sample.CodeFields(op); is != want {
			t.Errorf("of %d: %s, want %s", op, is, want)
		}
	}
}

func TestDrawnCode(t *testing.T) {
	d := sample.Dice(1)
	ops := map[int]int{}
	for range 2000 {
		c := sample.DrawCode(&d)
		told := sample.TellCode(c)
		again := sample.Code(told)
		again.Main = c.Main
		if e := r16.Check(c); e != api.OK || sample.ShapeCode(sample.SpacedCode(again)) != sample.ShapeCode(sample.SpacedCode(c)) {
			t.Fatalf("%v:\n%s", e, told)
		}
		for _, x := range c.Ins {
			ops[x.Op]++
		}
	}
	for op := api.RLdi; op <= api.ROutB; op++ {
		if ops[op] < 20 {
			t.Errorf("only %d instructions with the Op %d", ops[op], op)
		}
	}
}

func TestMemoryCode(t *testing.T) {
	c := sample.SpacedCode(sample.Code(allCode))
	before := sample.ShapeCode(c)
	hold := func(what string, write func(by int)) {
		write(1)
		if sample.ShapeCode(c) == before {
			t.Errorf("%s: what was written is not told", what)
		}
		write(-1)
	}
	for i := range c.Ins[:cap(c.Ins)] {
		x := &c.Ins[:cap(c.Ins)][i]
		for _, field := range []*int{&x.Op, &x.A, &x.B, &x.C, &x.N} {
			hold("an instruction", func(by int) { *field += by })
		}
	}
	for i := range c.Funcs[:cap(c.Funcs)] {
		f := &c.Funcs[:cap(c.Funcs)][i]
		for _, field := range []*int{&f.Frame, &f.First, &f.Count, &f.Params} {
			hold("a function", func(by int) { *field += by })
		}
	}
	hold("Main", func(by int) { c.Main += by })
	if sample.ShapeCode(c) != before || !strings.Contains(before, "spare") {
		t.Error("two shapes of one code")
	}
	sample.SpoilCode(c)
	for _, x := range c.Ins[:cap(c.Ins)] {
		if x.Op != -1 || x.A == 0 || x.B == 0 || x.C == 0 {
			t.Error("not all is spoilt")
		}
	}
	for _, f := range c.Funcs[:cap(c.Funcs)] {
		if f.Name != "" || f.Frame >= 0 {
			t.Error("not all is spoilt")
		}
	}
}
