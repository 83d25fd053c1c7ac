package compile_test

import (
	"bytes"
	"strconv"
	"strings"
	"sync"
	"testing"

	"quern/api"
	"quern/compile"
	"quern/sample"
)

// texts are programs, and texts that are refused for each reason.
func texts() []string {
	list := []string{"", "$", "func main() {", "func main() } $", "func main() {} $", "func main() { print(x); }", "func main() " + nested(api.MaxNest + 1)[0], "func main() {{}} func f" + params(9) + " {}",
		"func main() " + strings.Repeat("{", 201) + strings.Repeat("}", 201), "func main() { " + strings.Repeat("if true {}", 600) + " }", strings.Repeat(" ", api.MaxSource+1)}
	for _, x := range programs() {
		list = append(list, x.text)
	}
	d := sample.Dice(7)
	for i := range 100 {
		list = append(list, sample.DrawText(&d, 3+d.Below(40), i%2 == 0))
	}
	return list
}

// whole is all that Compile answers, in words.
func whole(p api.Program, f api.Fault) string {
	return strconv.Itoa(f.Class) + " " + strconv.Itoa(f.At) + " " + strconv.Itoa(f.What) + "\n" + toldOf(p)
}

// roomy is a text with spare room behind it that would go on with it.
func roomy(text, behind string) []byte { return []byte(text + behind)[:len(text)] }

func TestNotChanged(t *testing.T) {
	for _, text := range texts() {
		for _, behind := range []string{"}", "$", " func main() {} ", "\x00\xff", strings.Repeat(" ", 100)} {
			in := roomy(text, behind)
			is := whole(compile.Compile(in))
			if string(in[:len(text)+len(behind)]) != text+behind {
				t.Fatalf("DOC.md, 3: what was handed in has changed: %.300q", text)
			}
			if want := whole(compile.Compile(bytes.Clone([]byte(text)))); is != want {
				t.Fatalf("DOC.md, 3: with %q in its spare room %s, else %s", behind, is, want)
			}
		}
	}
}

func TestNotKept(t *testing.T) {
	for _, text := range texts() {
		in := roomy(text, "}}}}")
		p, f := compile.Compile(in)
		want := whole(p, f)
		in = in[:cap(in)]
		for i := range in {
			in[i] = 'z'
		}
		if is := whole(p, f); is != want {
			t.Fatalf("DOC.md, 3: what was handed in is kept: it was written over, and %s\nis answered, not %s", is, want)
		}
	}
}

// spoil writes over all that a program has, spare room included.
func spoil(p api.Program) {
	sample.SpoilCode(p.Code)
	reports := p.Reports[:cap(p.Reports)]
	for i := range reports {
		reports[i] = api.Report{Name: "spoilt", Frame: -1}
	}
}

func TestNewMemory(t *testing.T) {
	for _, text := range texts() {
		p, f := compile.Compile([]byte(text))
		q, g := compile.Compile([]byte(text))
		want := whole(p, f)
		spoil(q)
		if is := whole(p, f); is != want || f != g {
			t.Fatalf("DOC.md, 3: an answer that was written over is to be seen in another one: %s\nwant %s", is, want)
		}
		if is := whole(compile.Compile([]byte(text))); is != want {
			t.Fatalf("DOC.md, 4: an answer that was written over is to be seen in a later one: %s\nwant %s", is, want)
		}
		reports := p.Reports[:cap(p.Reports)]
		for i := range reports {
			reports[i] = api.Report{}
		}
		if is := sample.TellCode(p.Code); !strings.HasSuffix(want, is) {
			t.Fatalf("DOC.md, 3: the reports are memory of the code: %s\nwant %s", is, want)
		}
	}
}

// TestSameAgain asks for texts many times, several at once, with others between.
func TestSameAgain(t *testing.T) {
	list := texts()
	want := make([]string, len(list))
	for i, text := range list {
		want[i] = whole(compile.Compile([]byte(text)))
	}
	told := make([][]string, 12)
	var waiting sync.WaitGroup
	for k := range told {
		waiting.Go(func() {
			for i := range list {
				at := (i*(2*k+1) + k) % len(list)
				told[k] = append(told[k], whole(compile.Compile([]byte(list[at]))))
			}
		})
	}
	waiting.Wait()
	for k, all := range told {
		for i, is := range all {
			if at := (i*(2*k+1) + k) % len(list); is != want[at] {
				t.Fatalf("DOC.md, 4: %.300q: %s\nwant %s", list[at], is, want[at])
			}
		}
	}
}
