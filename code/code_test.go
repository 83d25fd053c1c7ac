package code_test

import (
	"bytes"
	"encoding/hex"
	"fmt"
	"slices"
	"strings"
	"testing"

	"quern/api"
	"quern/code"
	"quern/r16"
	"quern/sample"
)

// inHex are the bytes that a text tells in hexadecimal, with blanks between them.
func inHex(text string) []byte {
	b, err := hex.DecodeString(strings.Join(strings.Fields(text), ""))
	if err != nil {
		panic(err)
	}
	return b
}

func same(c, d api.Code) bool {
	return c.Main == d.Main && slices.Equal(c.Ins, d.Ins) && slices.Equal(c.Funcs, d.Funcs)
}

// shown are the bytes in hexadecimal; of many the first ones.
func shown(b []byte) string { return hex.EncodeToString(b[:min(len(b), 200)]) }

// shownCode is the code in words; of much the beginning.
func shownCode(c api.Code) string {
	words := fmt.Sprintf("%+v %+v %d", c.Funcs[:min(len(c.Funcs), 10)], c.Ins[:min(len(c.Ins), 50)], c.Main)
	return words[:min(len(words), 3000)]
}

func isZero(c api.Code) bool { return same(c, api.Code{}) }

// write is what Write answers of code that it takes.
func write(t testing.TB, c api.Code) []byte {
	t.Helper()
	b, err := code.Write(c)
	if err != api.OK {
		t.Fatalf("Write: %v of %s", err, shownCode(c))
	}
	return b
}

// holdForm: just these bytes are that code.
func holdForm(t *testing.T, what string, c api.Code, b []byte) {
	t.Helper()
	if is, err := code.Write(c); err != api.OK || !bytes.Equal(is, b) {
		t.Errorf("%s: Write: %v\n%s, want\n%s", what, err, shown(is), shown(b))
	}
	if is, at, err := code.Read(b); err != api.OK || at != 0 || !same(is, c) {
		t.Errorf("%s: Read: %d %v\n%s, want\n%s", what, at, err, shownCode(is), shownCode(c))
	}
}

// holdWrong: Read refuses the bytes, at that place.
func holdWrong(t *testing.T, what string, b []byte, place int) {
	t.Helper()
	if c, at, err := code.Read(b); err != api.ErrCodeBytes || at != place || !isZero(c) {
		t.Errorf("%s: %d %v %s, want %d, of\n%s", what, at, err, shownCode(c), place, shown(b))
	}
}

// holdRefused: Write refuses the code.
func holdRefused(t *testing.T, what string, c api.Code) {
	t.Helper()
	if b, err := code.Write(c); err != api.ErrCodeForm || len(b) != 0 {
		t.Errorf("%s: %v, %d bytes", what, err, len(b))
	}
}

// The chapter's example.
const (
	exampleText  = "main() frame 2\n0: ret"
	exampleBytes = `71 72 31 36 01 00 00 00 00 00 00 00
		04 6D 61 69 6E 02 00 00 00 00 00 00 00 01 00 00 00 00
		1B`
)

func TestExamples(t *testing.T) {
	b := inHex(exampleBytes)
	if len(b) != 31 {
		t.Fatalf("%d bytes", len(b))
	}
	holdForm(t, "the example", sample.Code(exampleText), b)
	holdWrong(t, "no bytes", nil, 0)
	holdWrong(t, "no bytes", []byte{}, 0)
	holdWrong(t, "the first 7", b[:7], 7)
	holdWrong(t, "the first 30", b[:30], 30)
	holdWrong(t, "a byte 0 behind them", append(slices.Clone(b), 0), 31)
	for _, x := range []struct{ at, to, place int }{
		{3, 0x37, 3}, {4, 0, 4}, {4, 2, 31}, {8, 1, 8}, {12, 0, 12}, {13, 0x2D, 13}, {17, 1, 17}, {25, 0, 25}, {29, 1, 29}, {30, 0x18, 30},
	} {
		turned := slices.Clone(b)
		turned[x.at] = byte(x.to)
		holdWrong(t, "one byte turned", turned, x.place)
	}
}

// TestP2201Instructions has each Op by hand, with what it uses, in an order that tells A, B, C apart.
func TestP2201Instructions(t *testing.T) {
	for text, want := range map[string]string{
		"ldi r15 72623859790382856":   "01 0F 08 07 06 05 04 03 02 01",
		"ldi r0 -2":                   "01 00 FE FF FF FF FF FF FF FF",
		"ldi r1 -9223372036854775808": "01 01 00 00 00 00 00 00 00 80",
		"ldi r1 9223372036854775807":  "01 01 FF FF FF FF FF FF FF 7F",
		"ldi r1 128":                  "01 01 80 00 00 00 00 00 00 00",
		"mov r1 r2":                   "02 01 02",
		"add r1 r2 r3":                "03 01 02 03",
		"sub r3 r2 r1":                "04 03 02 01",
		"mul r0 r15 r14":              "05 00 0F 0E",
		"div r1 r2 r3":                "06 01 02 03",
		"rem r1 r2 r3":                "07 01 02 03",
		"and r1 r2 r3":                "08 01 02 03",
		"or r1 r2 r3":                 "09 01 02 03",
		"xor r1 r2 r3":                "0A 01 02 03",
		"bic r1 r2 r3":                "0B 01 02 03",
		"shl r1 r2 r3":                "0C 01 02 03",
		"shr r1 r2 r3":                "0D 01 02 03",
		"eq r1 r2 r3":                 "0E 01 02 03",
		"ne r1 r2 r3":                 "0F 01 02 03",
		"lt r1 r2 r3":                 "10 01 02 03",
		"le r1 r2 r3":                 "11 01 02 03",
		"neg r4 r5":                   "12 04 05",
		"inv r4 r5":                   "13 04 05",
		"not r4 r5":                   "14 04 05",
		"jmp 513":                     "15 01 02 00 00 00 00 00 00",
		"bz r6 512":                   "16 06 00 02 00 00 00 00 00 00",
		"bnz r7 515":                  "17 07 03 02 00 00 00 00 00 00",
		"lds r8 65537":                "18 08 01 00 01 00 00 00 00 00",
		"sts r9 2":                    "19 09 02 00 00 00 00 00 00 00",
		"call g":                      "1A 02 00 00 00 00 00 00 00",
		"ret":                         "1B",
		"alloc r10 r11":               "1C 0A 0B",
		"len r12 r13":                 "1D 0C 0D",
		"ldx r1 r2 r3":                "1E 01 02 03",
		"stx r4 r5 r6":                "1F 04 05 06",
		"trapz r14 1":                 "20 0E 01 00 00 00 00 00 00 00",
		"trapn r15 5":                 "21 0F 05 00 00 00 00 00 00 00",
		"trapu r2 r1 3":               "22 02 01 03 00 00 00 00 00 00 00",
		"trap r3 6":                   "23 03 06 00 00 00 00 00 00 00",
		"inp r5":                      "24 05",
		"outi r6":                     "25 06",
		"outb r7":                     "26 07",
	} {
		// main's instructions are the numbers 512 to 515: the function ahead has 512.
		ahead := strings.Repeat("ret; ", 511) + "ret"
		c := sample.Code("f(3)\n0: " + ahead + "\nmain() frame 1099511627776\n512: ret; " + text + "; inp r0; ret\ng(8) frame 3\n516: ret")
		b := append(inHex("71 72 31 36  03 00 00 00  01 00 00 00"+
			"01 66  02 00 00 00 00 00 00 00  00 02 00 00  03"+
			"04 6D 61 69 6E  00 00 00 00 00 01 00 00  04 00 00 00  00"+
			"01 67  03 00 00 00 00 00 00 00  01 00 00 00  08"+
			strings.Repeat("1B", 513)), inHex(want+"24 00 1B 1B")...)
		holdForm(t, text, c, b)
	}
}

// TestP2201Heads has functions, their fields and Main by hand.
func TestP2201Heads(t *testing.T) {
	c := sample.Code("_() frame 2\n0: ret; ret\nZ9(8) frame 258\n2: jmp 2\nmain() frame 4294967298\n3: trap r1 2; ret")
	c.Main = 2
	const heads = "01 5F  02 00 00 00 00 00 00 00  02 00 00 00  00" +
		"02 5A 39  02 01 00 00 00 00 00 00  01 00 00 00  08" +
		"04 6D 61 69 6E  02 00 00 00 01 00 00 00  02 00 00 00  00"
	const all = "1B 1B  15 02 00 00 00 00 00 00 00  23 01 02 00 00 00 00 00 00 00  1B"
	holdForm(t, "Main the last one", c, inHex("71 72 31 36  03 00 00 00  02 00 00 00"+heads+all))
	c.Main = 0
	holdForm(t, "Main the first one, which is not called main", c, inHex("71 72 31 36  03 00 00 00  00 00 00 00"+heads+all))
	long := strings.Repeat("aB_7", 16)
	c = sample.Code(long + "() frame 2\n0: ret")
	c.Main = 0
	holdForm(t, "a name of 64 bytes", c, inHex("71 72 31 36  01 00 00 00  00 00 00 00  40"+strings.Repeat("61 42 5F 37", 16)+"02 00 00 00 00 00 00 00  01 00 00 00  00  1B"))
}

// TestP2202Refused: what r16.Check refuses; also what the bytes could not tell from code that is right, as they have no field for it or one that is too short.
func TestP2202Refused(t *testing.T) {
	const text = "main() frame 5\n0: ldi r1 7; add r2 r1 r1; bz r2 4; call f; trapu r1 r2 5; outi r2; ret\nf(2) frame 3\n7: sts r0 2; jmp 7"
	write(t, sample.Code(text))
	for what, turn := range map[string]func(c *api.Code){
		"no functions":                 func(c *api.Code) { *c = api.Code{} },
		"no functions, instructions":   func(c *api.Code) { c.Funcs = nil },
		"no instructions":              func(c *api.Code) { c.Ins = nil },
		"an instruction more":          func(c *api.Code) { c.Ins = append(c.Ins, api.Ins{Op: api.RRet}) },
		"an instruction less":          func(c *api.Code) { c.Ins = c.Ins[:8] },
		"Main -1":                      func(c *api.Code) { c.Main = -1 },
		"Main 2":                       func(c *api.Code) { c.Main = 2 },
		"Main 2^32":                    func(c *api.Code) { c.Main = 1 << 32 },
		"Main with Params":             func(c *api.Code) { c.Main = 1 },
		"First 1":                      func(c *api.Code) { c.Funcs[0].First = 1 },
		"First 6":                      func(c *api.Code) { c.Funcs[1].First = 6 },
		"First 0 of both":              func(c *api.Code) { c.Funcs[1].First = 0 },
		"Count 0":                      func(c *api.Code) { c.Funcs[1].Count = 0 },
		"Count 2^32 more":              func(c *api.Code) { c.Funcs[1].Count += 1 << 32 },
		"Frame 1":                      func(c *api.Code) { c.Funcs[0].Frame = 1 },
		"Frame above MaxStack":         func(c *api.Code) { c.Funcs[0].Frame = api.MaxStack + 1 },
		"Params 9":                     func(c *api.Code) { c.Funcs[1].Params = 9 },
		"Params 256 more":              func(c *api.Code) { c.Funcs[1].Params += 256 },
		"no name":                      func(c *api.Code) { c.Funcs[1].Name = "" },
		"a word":                       func(c *api.Code) { c.Funcs[1].Name = "for" },
		"one name twice":               func(c *api.Code) { c.Funcs[1].Name = "main" },
		"a name of 65 bytes":           func(c *api.Code) { c.Funcs[1].Name = strings.Repeat("n", 65) },
		"a name of 257 bytes":          func(c *api.Code) { c.Funcs[1].Name = strings.Repeat("n", 257) },
		"no Op":                        func(c *api.Code) { c.Ins[0].Op = 0 },
		"an Op past the last one":      func(c *api.Code) { c.Ins[5].Op = 39 },
		"an Op 256 more":               func(c *api.Code) { c.Ins[6].Op += 256 },
		"a register 16":                func(c *api.Code) { c.Ins[1].C = 16 },
		"a register 256 more":          func(c *api.Code) { c.Ins[1].B += 256 },
		"a register -1":                func(c *api.Code) { c.Ins[1].A = -1 },
		"an A that is not used":        func(c *api.Code) { c.Ins[6].A = 1 },
		"a B that is not used":         func(c *api.Code) { c.Ins[0].B = 1 },
		"a C that is not used":         func(c *api.Code) { c.Ins[4].C = 1 },
		"an N that is not used":        func(c *api.Code) { c.Ins[1].N = 1 },
		"N of RRet":                    func(c *api.Code) { c.Ins[6].N = 1 },
		"a target in another function": func(c *api.Code) { c.Ins[2].N = 7 },
		"a word past the frame":        func(c *api.Code) { c.Ins[7].N = 3 },
		"a function that is none":      func(c *api.Code) { c.Ins[3].N = 2 },
		"a kind that is none":          func(c *api.Code) { c.Ins[4].N = 6 },
		"a last one that goes on":      func(c *api.Code) { c.Ins[8] = api.Ins{Op: api.RMov} },
	} {
		c := sample.Code(text)
		turn(&c)
		if r16.Check(c) != api.ErrCodeForm {
			t.Fatalf("%s: Check takes it", what)
		}
		holdRefused(t, what, c)
	}
}
