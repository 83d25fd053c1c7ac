package sample

// The forms from which texts are drawn. Behind a $ stand: i, b, l for values (an int, a bool, a []int other than the
// word nil); n for a []int or nil, x for an index, r for what a return has; I, B, L for variables of these types; k for
// a call, v for a declaration, e for an if; s for the statements of a block, f for those of a loop, c for a counter's
// condition with its loop, g for statements of a loop that it may leave behind them, t for statements that end.

func statementForms() []string {
	return []string{"$v", "$v", "$v", "$I = $i;", "$I = $i;", "$I = $I;", "$B = $b;", "$B = $b;", "$L = $n;", "$L[$x] = $i;", "$L[$x] = $i;",
		"print($i);", "print($i);", "print($b);", "print($b);", "$k;", "if $b {$s}", "if $b {$s}", "if $b {$s} else {$s}", "$e",
		"for $c", "for $c", "for $b {$f}", "for {$g}", "for {$g}", "for {$f}", "{$s}", "return$r;", "panic($i);", "break;", "break;", "continue;", "continue;"}
}

func flowForms() []string {
	return []string{"$v", "$I = $I;", "$I = $I;", "$I = $I + 1;", "$I = $i;", "$B = $B;", "$B = !$B;", "$B = $b;", "print($I);", "print($I);", "print($B);",
		"if $b {$s}", "if $b {$s}", "if $B {$s} else {$s}", "$e", "for $c", "for $b {$f}", "for {$g}", "{$s}", "if $B { break; }", "if $B { continue; }", "if $b { return$r; }", "break;", "continue;"}
}

func ifForms() []string {
	return []string{"if $b {$s}", "if $b {$s} else {$s}", "if $b {$s} else $e", "if $b {$t} else $e", "if $b {$s} else {$t}"}
}

func endForms() []string {
	return []string{"return$r;", "return$r;", "return$r;", "panic($i);", "{$t}", "if $b {$t} else {$t}", "for {$s}"}
}

func valueForms(letter byte) []string {
	switch letter {
	case 'i':
		return []string{"$I", "$I", "$I", "$I", "0", "1", "7", "9223372036854775807", "input()", "len($l)", "$l[$x]", "-($i)", "^($i)", "($i) + ($i)", "($i) - ($i)", "($i) * ($i)",
			"($i) / ($i)", "($i) % (($i) | 4)", "($i) & ($i)", "($i) | ($i)", "($i) ^ ($i)", "($i) &^ ($i)", "($i) << (($i) & 9)", "($i) >> ($i)", "$k"}
	case 'b':
		return []string{"$B", "$B", "$B", "true", "false", "!($b)", "($b) && ($b)", "($b) && ($b)", "($b) || ($b)", "($b) || ($b)", "($b) == ($b)", "($b) != ($b)",
			"$l == nil", "nil != $l", "($i) == ($i)", "($i) != ($i)", "($i) < ($i)", "($i) <= ($i)", "($i) > ($i)", "($i) >= ($i)", "$k"}
	}
	return []string{"$L", "$L", "$L", "make([]int, 3)", "make([]int, 4)", "make([]int, ($i) & 7)", "make([]int, $i)", "$k"}
}

func leafForms(letter byte) []string {
	switch letter {
	case 'i':
		return []string{"$I", "$I", "$I", "2", "3", "input()"}
	case 'b':
		return []string{"$B", "$B", "$B", "true", "false"}
	}
	return []string{"$L", "$L", "make([]int, 5)"}
}
