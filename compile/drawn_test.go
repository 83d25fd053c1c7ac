package compile_test

import (
	"strconv"
	"strings"
	"testing"

	"quern/api"
	"quern/compile"
	"quern/sample"
)

// counts of what was drawn: a draw of one sort would hold little.
type counts map[string]int

func (c counts) add(what string, is bool) {
	if is {
		c[what]++
	}
}

func (c counts) hold(t *testing.T, least int, all ...string) {
	t.Helper()
	for _, what := range all {
		if c[what] < least {
			t.Errorf("only %d: %s", c[what], what)
		}
	}
	t.Log(c)
}

// held holds what is answered of a text against the oracle; where it is a program, its levels are told.
func held(t *testing.T, text string) (levels, api.Program, api.Fault) {
	t.Helper()
	p, fault := compile.Compile([]byte(text))
	tree, want := refusalOf([]byte(text))
	if fault != want {
		t.Fatalf("P2401: %+v, want %+v:\n%s", fault, want, text)
	}
	if want != (api.Fault{}) {
		if !nothing(p) {
			t.Fatalf("P2401: a program beside %+v:\n%s", fault, text)
		}
		return levels{}, p, fault
	}
	l := levelsOf(t, tree)
	if is, want := toldOf(p), toldOf(l.program()); is != want {
		t.Fatalf("P2402: %s\nwant %s\nof\n%s", is, want, text)
	}
	return l, p, fault
}

// TestP2402Drawn draws programs.
func TestP2402Drawn(t *testing.T) {
	t.Parallel()
	d, c := sample.Dice(2402), counts{}
	for i := range 1500 {
		text := sample.DrawText(&d, 3+d.Below(70), i%2 == 0)
		_, p, fault := held(t, text)
		if fault != (api.Fault{}) {
			t.Fatalf("W3: a program is refused: %+v\n%s", fault, text)
		}
		for _, r := range p.Reports {
			c.add("a frame of 2", r.Frame == 2)
			c.add("saves", r.Saves > 0)
			c.add("many saves", r.Saves > 4)
			c.add("spills", r.Spills > 0)
			c.add("both", r.Saves > 0 && r.Spills > 0)
			c.add("fewer registers of LIR than values", r.Vregs < r.Values)
			c.add("blocks", r.Blocks > 10)
			c.add("main is the first one", p.Code.Main == 0)
			c.add("main is another one", p.Code.Main > 0)
		}
	}
	c.hold(t, 10, "a frame of 2", "saves", "many saves", "spills", "both", "fewer registers of LIR than values", "blocks", "main is the first one", "main is another one")
}

// tokens, values, statements, functions are what may stand where another one did, or none.
func tokens() []string {
	return []string{"", " ", "$", "\x80", "//", "//$", "012", "9223372036854775808", strings.Repeat("n", api.MaxName+1), "{", "}", "(", ")", "[", "]", ";", ",", "=", "==", "<", "+", "-", "!", "&&", "/", "%", "<<",
		"if", "else", "for", "func", "var", "int", "bool", "[]int", "return", "print", "input", "len", "make", "0", "v0", "main"}
}

func values() []string {
	return []string{"v0", "v1", "v2", "v3", "f0", "main", "x", "0", "true", "false", "nil", "input()", "len(v0)", "v1[0]", "-v2", "!v0", "f0()", "f1(1)", "f0(1, true)", "main()", "make([]int, v0)"}
}

func statements() []string {
	return []string{"return;", "return 1;", "return true;", "return nil;", "break;", "continue;", "main();", "f0(1);", "main = 1;", "print(f0());", "var v0 int;", "var v1 bool;", "var f0 []int;", "print(v0);", "print(nil);", "v0 = v1;", "v2[0] = 1;", "{ }", "for { }"}
}

func functions() []string {
	return []string{"func main() { }", "func main(a int) { }", "func f0() { }", "func f() int { }", "func g(v0 int, v0 bool) { }", "func h() int { for { if true { break; } } }", "func i() bool { return 1; }", "func j() { return; print(f0); }", "func k() { break; }", "func l() { print(l()); }"}
}

// turnedText is a text of which one part is another one now, or two are; sometimes not all of it.
func turnedText(d *sample.Dice, text string) string {
	for range 1 + d.Below(2) {
		at := d.Below(len(text))
		switch d.Below(4) {
		case 0:
			text = text[:at] + tokens()[d.Below(len(tokens()))] + text[min(at+d.Below(4), len(text)):]
		case 1:
			first, behind := nameAt(text, at)
			text = text[:first] + values()[d.Below(len(values()))] + text[behind:]
		case 2:
			text = put(text, at, ";{}", statements()[d.Below(len(statements()))])
		case 3:
			text = put(text, at, "\n", functions()[d.Below(len(functions()))])
		}
		if len(text) == 0 {
			return text
		}
	}
	if d.Below(12) == 0 {
		text = text[:d.Below(len(text))]
	}
	return text
}

// nameAt tells from where to where the next name, or number, goes: it may be none.
func nameAt(text string, at int) (first, behind int) {
	for at < len(text) && !isName(text[at]) {
		at++
	}
	for at > 0 && isName(text[at-1]) {
		at--
	}
	behind = at
	for behind < len(text) && isName(text[behind]) {
		behind++
	}
	return at, behind
}

// put puts a part behind the next byte of those, or at the end.
func put(text string, at int, bytes, part string) string {
	for at < len(text) && !strings.Contains(bytes, text[at:at+1]) {
		at++
	}
	at = min(at+1, len(text))
	return text[:at] + " " + part + text[at:]
}

func isName(b byte) bool {
	return b >= 'a' && b <= 'z' || b >= 'A' && b <= 'Z' || b >= '0' && b <= '9' || b == '_'
}

// TestP2401Turned turns programs: they are refused by every error of lex, parse and types, or are programs still.
func TestP2401Turned(t *testing.T) {
	t.Parallel()
	d, c := sample.Dice(2401), counts{}
	for i := range 12000 {
		text := turnedText(&d, sample.DrawText(&d, 2+d.Below(12), i%2 == 0))
		_, _, fault := held(t, text)
		c["class "+strconv.Itoa(fault.Class)]++
		c["what "+strconv.Itoa(fault.What)]++
	}
	all := []string{"class 0", "class 2", "class 3"}
	for _, what := range []int{20, 21, 22, 40, 41, 50, 51, 52, 53, 54, 55, 56, 57, 58, 59} {
		all = append(all, "what "+strconv.Itoa(what))
	}
	c.hold(t, 30, all...)
}

// TestP2401EachBeginning: each beginning of a text, and each byte of it as another one.
func TestP2401EachBeginning(t *testing.T) {
	t.Parallel()
	const text = "func f(a int, b []int) int { for a < 9 { b[a] = -a; if a == 7 { break; } else { a = a + 1; } } // on\n return len(b); }\nfunc main() { var x []int = make([]int, 12); print(f(3, x) > 0 && !false); }"
	held(t, text)
	for i := range text {
		held(t, text[:i])
		held(t, text[i:])
		for _, b := range []byte(" $1a/{}();=-\x00\xff") {
			held(t, text[:i]+string([]byte{b})+text[i+1:])
		}
	}
}

// TestP2401Limits draws functions of which some pass limits.
func TestP2401Limits(t *testing.T) {
	t.Parallel()
	d, c := sample.Dice(24), counts{}
	pieces := broken()
	for range 120 {
		text := none
		for i := range 2 + d.Below(3) {
			name := "g" + strconv.Itoa(i)
			switch d.Below(3) {
			case 0:
				text += "func " + name + "() { " + nested(api.MaxNest)[d.Below(7)] + " } "
			case 1:
				text += valued(name, d.Below(30))
			case 2:
				x := pieces[d.Below(len(pieces))]
				text += "func " + name + x.head + " { " + x.body + " } "
			}
			if d.Below(20) == 0 {
				text += "func h() { x = 1; } "
			}
		}
		if d.Below(8) > 0 {
			text += "func main() {} "
		}
		_, _, fault := held(t, text)
		c["class "+strconv.Itoa(fault.Class)+" what "+strconv.Itoa(fault.What)]++
	}
	c.hold(t, 4, "class 0 what 0", "class 3 what 51", "class 3 what 52", "class 4 what 1", "class 4 what 2", "class 4 what 3", "class 4 what 4")
}
