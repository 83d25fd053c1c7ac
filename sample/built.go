package sample

import (
	"quern/api"
	"quern/build"
	"quern/lex"
	"quern/parse"
	"quern/types"
)

// Built is the SSA of a text of MiniGo. It panics where the text is refused.
func Built(text string) api.SSA {
	tokens, _, e := lex.Tokens([]byte(text))
	var tree api.Tree
	if e == api.OK {
		tree, _, _, e = parse.Parse(tokens, len(text))
	}
	if e == api.OK {
		tree, _, e = types.Types(tree)
	}
	var s api.SSA
	if e == api.OK {
		s, _, e = build.Build(tree)
	}
	if e != api.OK {
		panic(e.Error() + ": " + text)
	}
	return s
}
