// Package names: what the forms of all levels ask of a name: see DOC.md, rule 11.
package names

import (
	"quern/api"
	"quern/lex"
)

// Fits tells whether it is a name of MiniGo that is none of its words.
func Fits(name string) bool {
	if len(name) > api.MaxName { // what is handed in may have any length: that much is not worth cutting
		return false
	}
	tokens, _, _ := lex.Tokens([]byte(name))
	// No word and no number has a Name, and where there is more than a name its token's Name is shorter.
	return len(tokens) == 1 && tokens[0].Name == name
}

// All tells whether the names of all things of a list fit, and no two of them are the same.
func All[T any](list []T, name func(T) string) bool {
	met := map[string]int{}
	for _, x := range list {
		if !Fits(name(x)) {
			return false
		}
		met[name(x)]++
	}
	return len(met) == len(list)
}
