package r16_test

import (
	"runtime"
	"strconv"
	"testing"

	"quern/api"
	"quern/r16"
	"quern/sample"
)

// taken is how many bytes are in use.
func taken() int64 {
	runtime.GC()
	var stats runtime.MemStats
	runtime.ReadMemStats(&stats)
	return int64(stats.HeapAlloc)
}

// TestP2106GreatFrames: frames take memory for what was written in them alone, wherever that stands.
func TestP2106GreatFrames(t *testing.T) {
	// As many frames as the stack has room for, each of which sets its first word and its last one.
	const deep = 1 << 12
	frame := api.MaxStack / deep
	last := strconv.Itoa(frame - 1)
	c := sample.Code("main() frame " + strconv.Itoa(frame) + `
		0: ldi r1 1
		1: sts r0 2; add r0 r0 r1; sts r0 ` + last + `; ldi r2 ` + strconv.Itoa(deep) + `; eq r3 r0 r2; bnz r3 8; call main; lds r4 2; lds r5 ` + last + `; lds r6 3; add r7 r7 r4; add r7 r7 r5; add r7 r7 r6; ret`)
	before := taken()
	m := start(t, c, nil, wide)
	if o, _ := m.Run(8*deep - 1); told(o) != "running "+strconv.Itoa(8*deep-1)+" 0 "+strconv.Itoa(deep) {
		t.Errorf("down: %s", told(o))
	}
	if grown := taken() - before; grown > 1<<22 {
		t.Errorf("%d frames of %d words: %d bytes", deep, frame, grown)
	}
	if o, _ := m.Run(api.MaxFuel); told(o) != "exit "+strconv.Itoa(8*deep-1+7*deep)+" 0 "+strconv.Itoa(deep) {
		t.Errorf("up again: %s", told(o))
	}
	c.Ins[4].N++ // one deeper
	if o, _ := start(t, c, nil, wide).Run(api.MaxFuel); told(o) != "panic stack "+strconv.Itoa(8*deep)+" 0 "+strconv.Itoa(deep) {
		t.Errorf("one deeper: %s", told(o))
	}
}

// TestP2106GreatFrameOfMain: all of the greatest stack.
func TestP2106GreatFrameOfMain(t *testing.T) {
	last := strconv.Itoa(api.MaxStack - 1)
	text := "main() frame " + strconv.Itoa(api.MaxStack) + "\n0: ldi r0 5; sts r0 " + last + "; lds r1 " + last + "; outi r1; lds r1 2; outi r1; call f; ret\nf()\n8: ret"
	if o, _ := start(t, sample.Code(text), nil, wide).Run(99); told(o) != "5 0 panic stack 7 0 1" {
		t.Errorf("%s", told(o))
	}
}

// TestP2106GreatBlocks: blocks take memory for what was set in them alone.
func TestP2106GreatBlocks(t *testing.T) {
	const blocks = 1 << 10
	size := api.MaxHeap/blocks - 1
	c := sample.Code(`main()
		0: ldi r0 ` + strconv.Itoa(size) + `; ldi r1 1; sub r2 r0 r1; ldi r9 ` + strconv.Itoa(blocks) + `
		4: alloc r3 r0; stx r3 r3 r2; stx r1 r3 r1; ldx r4 r3 r2; sub r5 r4 r3; trapn r5 1; add r6 r6 r1; lt r7 r6 r9; bnz r7 4; outi r3; ret`)
	before := taken()
	m := start(t, c, nil, wide)
	o, _ := m.Run(4 + 9*blocks)
	if want := "running " + strconv.Itoa(4+9*blocks) + " " + strconv.Itoa(api.MaxHeap) + " 1"; told(o) != want {
		t.Errorf("%s, want %s", told(o), want)
	}
	if grown := taken() - before; grown > 1<<20 {
		t.Errorf("%d blocks of %d words: %d bytes", blocks, size, grown)
	}
	runtime.KeepAlive(m)
	c.Ins[3].N++ // one more
	if o, _ := start(t, c, nil, wide).Run(api.MaxFuel); told(o) != "panic heap "+strconv.Itoa(4+9*blocks+1)+" "+strconv.Itoa(api.MaxHeap)+" 1" {
		t.Errorf("one more: %s", told(o))
	}
}

// TestP2106DeepCalls: no step takes longer for being deep.
func TestP2106DeepCalls(t *testing.T) {
	const deep = 1 << 20
	c := sample.Code(`main() frame 2
		0: inp r0; ldi r1 1; call down; outi r2; ret
		down(1) frame 3
		5: bz r0 11; sts r0 2; sub r0 r0 r1; call down; lds r3 2; add r2 r2 r1; ret`)
	limits := api.Limits{Stack: 2 + 3*(deep+1)}
	o, _ := start(t, c, []int{deep}, limits).Run(api.MaxFuel)
	if want := strconv.Itoa(deep) + " exit " + strconv.Itoa(7*deep+2+5) + " 0 " + strconv.Itoa(deep+2); told(o) != want {
		t.Errorf("%d calls deep: %s, want %s", deep, told(o), want)
	}
	o, _ = start(t, c, []int{deep + 1}, limits).Run(api.MaxFuel)
	if want := "panic stack " + strconv.Itoa(4*(deep+1)+3) + " 0 " + strconv.Itoa(deep+2); told(o) != want {
		t.Errorf("one deeper: %s, want %s", told(o), want)
	}
}

// TestP2106ManyCalls: calls one behind the other take the same words again.
func TestP2106ManyCalls(t *testing.T) {
	m := start(t, sample.Code("main()\n0: call f; jmp 0\nf() frame 9\n2: sts r0 8; add r0 r0 r1; ret"), nil, api.Limits{Stack: 11})
	before := taken()
	if o, _ := m.Run(5 << 20); told(o) != "running 5242880 0 2" {
		t.Errorf("many calls: %s", told(o))
	}
	if grown := taken() - before; grown > 1<<20 {
		t.Errorf("many calls, one behind the other: %d bytes", grown)
	}
	runtime.KeepAlive(m)
}

// TestP2106EndedRunsLetGo: behind the end, and where it rests, a run keeps no more than its outcome.
func TestP2106EndedRunsLetGo(t *testing.T) {
	const fill = "main() frame 2\n0: ldi r1 1; ldi r2 100000; alloc r3 r2\n3: stx r1 r3 r0; add r0 r0 r1; lt r4 r0 r2; bnz r4 3; call main2; ret\nmain2()\n9: sub r0 r0 r1; bz r0 12; call main2; "
	for _, last := range []string{"ret", "trap r0 6", "div r0 r0 r9; ret", "ldi r0 9; alloc r0 r0; ret", "call main2; ret", "outi r0; jmp 12"} {
		c := sample.Code(fill + last)
		holdLetGo(t, last, func() *r16.Machine {
			m := start(t, c, make([]int, 100000), api.Limits{Stack: 2 + 2*100000, Heap: 100001})
			if o, _ := m.Run(api.MaxFuel); o.Steps < 600000 || o.Depth < 100000 || o.Words < 100001 {
				t.Errorf("%s: %d steps, depth %d, %d words", last, o.Steps, o.Depth, o.Words)
			}
			return m
		})
	}
	long := sample.Code("main() frame 9\n0: ret")
	for range 1 << 16 {
		long.Ins = append(long.Ins, api.Ins{Op: api.RRet})
	}
	long.Funcs[0].Count = len(long.Ins)
	holdLetGo(t, "at its beginning", func() *r16.Machine { return start(t, long, make([]int, 100000), api.Limits{Stack: 8}) })
}

// holdLetGo makes some runs that are over, and looks at what they keep.
func holdLetGo(t *testing.T, what string, run func() *r16.Machine) {
	t.Helper()
	var ended []*r16.Machine
	before := taken()
	for range 4 {
		ended = append(ended, run())
	}
	kept := int64(0)
	for _, m := range ended {
		kept += int64(16 * 2 * len(m.Outcome().Events)) // which may have room for twice as many
	}
	if grown := taken() - before; grown > 1<<20+kept {
		t.Errorf("%s: runs that have ended keep %d bytes", what, grown)
	}
	runtime.KeepAlive(ended)
}

// TestLongCode: two million instructions, a jump over most of them and back.
func TestLongCode(t *testing.T) {
	const n = 1 << 21
	list := []api.Ins{{Op: api.RLdi, A: 1, N: 1}, {Op: api.RJmp, N: n - 2}}
	for len(list) < n-3 {
		list = append(list, api.Ins{Op: api.RAdd, A: 2, B: 2, C: 1})
	}
	list = append(list, api.Ins{Op: api.ROutI, A: 2}, api.Ins{Op: api.RBz, A: 2, N: 2}, api.Ins{Op: api.RRet})
	c := api.Code{Ins: list, Funcs: []api.RFunc{{Name: "main", Frame: 2, Count: n}}}
	o, _ := start(t, c, nil, wide).Run(api.MaxFuel)
	if want := strconv.Itoa(n-5) + " exit " + strconv.Itoa(n+1) + " 0 1"; told(o) != want {
		t.Errorf("%s, want %s", told(o), want)
	}
	c.Ins[n/2].A = 16
	if is := r16.Check(c); is != api.ErrCodeForm {
		t.Errorf("one of them with a register that is none: %v", is)
	}
}

// TestManyFunctions: each calls the next one.
func TestManyFunctions(t *testing.T) {
	const n = 50000
	var c api.Code
	for i := range n {
		c.Funcs = append(c.Funcs, api.RFunc{Name: "f" + strconv.Itoa(i), Frame: 2 + i%7, First: 2 * i, Count: 2})
		c.Ins = append(c.Ins, api.Ins{Op: api.RCall, N: i + 1}, api.Ins{Op: api.RRet})
	}
	c.Funcs = append(c.Funcs, api.RFunc{Name: "last", Frame: 2, First: 2 * n, Count: 2})
	c.Ins = append(c.Ins, api.Ins{Op: api.ROutI}, api.Ins{Op: api.RRet})
	o, _ := start(t, c, nil, wide).Run(api.MaxFuel)
	if want := "0 exit " + strconv.Itoa(2*n+2) + " 0 " + strconv.Itoa(n+1); told(o) != want {
		t.Errorf("%s, want %s", told(o), want)
	}
	c.Funcs[n].Name = "f7"
	if is := r16.Check(c); is != api.ErrCodeForm {
		t.Errorf("two of one name: %v", is)
	}
}
