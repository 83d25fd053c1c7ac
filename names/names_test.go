package names_test

import (
	"strings"
	"testing"

	"quern/names"
)

func TestNamesThatFit(t *testing.T) {
	for _, name := range []string{"a", "Z", "_", "__", "x1", "a_B9", "main", "Func", "funcs", "iff", "nil0", "string", strings.Repeat("q", 64)} {
		if !names.Fits(name) {
			t.Errorf("%q does not fit", name)
		}
	}
}

func TestNamesThatDoNotFit(t *testing.T) {
	words := strings.Fields("func var if else for return break continue print panic input len make int bool true false nil")
	if len(words) != 18 {
		t.Fatalf("%d words", len(words))
	}
	others := []string{"", " ", "a ", " a", "\na", "a\n", "a b", "a//", "//a", "a//b", "1", "1a", "0", "a-b", "-a", "a;", ";", "é", "aé", "\x00", "a\x00", strings.Repeat("q", 65), strings.Repeat("q", 1<<20)}
	for _, name := range append(words, others...) {
		if names.Fits(name) {
			t.Errorf("%.70q fits", name)
		}
	}
}

func TestEveryByte(t *testing.T) {
	const letters = "ABCDEFGHIJKLMNOPQRSTUVWXYZabcdefghijklmnopqrstuvwxyz_"
	for b := range 256 {
		s := string([]byte{byte(b)})
		first := strings.Contains(letters, s)
		later := first || strings.Contains("0123456789", s)
		if names.Fits(s) != first {
			t.Errorf("%q alone: %v", s, !first)
		}
		if names.Fits("a"+s) != later || names.Fits("a"+s+"b") != later {
			t.Errorf("%q behind a letter: want %v", s, later)
		}
	}
}

func TestAll(t *testing.T) {
	for _, x := range []struct {
		list []string
		want bool
	}{
		{nil, true},
		{[]string{"a"}, true},
		{[]string{"a", "b", "A", "_a"}, true},
		{[]string{"a", "b", "a"}, false},
		{[]string{"a", "a"}, false},
		{[]string{"for"}, false},
		{[]string{"a", "b", ""}, false},
		{[]string{"1", "b"}, false},
	} {
		if is := names.All(x.list, func(name string) string { return name }); is != x.want {
			t.Errorf("All(%q) = %v", x.list, is)
		}
	}
}
