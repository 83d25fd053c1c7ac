package types_test

import (
	"testing"

	"quern/api"
	"quern/types"
)

// knownAhead counts the variables of a declaration's function that are known where it begins.
func (o *oracle) knownAhead(declaration int) int {
	count := 0
	open := o.scopesOf(declaration)
	for i := range declaration {
		if k := o.kind(i); k != api.NodeParam && k != api.NodeVar {
			continue
		}
		for _, scope := range open {
			if o.scopesOf(i)[0] == scope {
				count++
			}
		}
	}
	return count
}

func (o *oracle) holdBound(t *testing.T, b types.Bound) {
	t.Helper()
	for i, n := range o.Nodes {
		switch n.Kind {
		case api.NodeName, api.NodeSet, api.NodeSetAt, api.NodeCall:
			if want := o.means(i); b.Means[i] != want {
				t.Fatalf("the node %d means %d, want %d", i, b.Means[i], want)
			}
		case api.NodeParam, api.NodeVar:
			if want := o.knownAhead(i); b.Slots[i] != want {
				t.Fatalf("the node %d has the slot %d, want %d", i, b.Slots[i], want)
			}
		}
	}
}

func TestBind(t *testing.T) {
	for seed := range int64(150) {
		text := drawnText(seed, 60, 0)
		bare := parsed(text)
		typed := expect(t, text, bare, 0, api.OK)
		b, ok := types.Bind(typed)
		if !ok || !same(b.Tree, typed) {
			t.Fatalf("%s: not bound", text)
		}
		ask(typed).holdBound(t, b)
		for i, n := range typed.Nodes {
			if n.Kind < api.NodeNum {
				continue
			}
			typed.Nodes[i].Type = (n.Type + 1) % 4
			if b, ok := types.Bind(typed); ok || b.Means != nil || b.Slots != nil || b.Tree.Nodes != nil {
				t.Fatalf("%s: bound with another type of the node %d", text, i)
			}
			typed.Nodes[i].Type = n.Type
		}
	}
}

func TestBindRefuses(t *testing.T) {
	for _, x := range []api.Tree{{}, {Funcs: []int{0}}, parsed("func main() { print(1); }"), parsed("func f() {}"), parsed("func main() { x = 1; }")} {
		if b, ok := types.Bind(x); ok || b.Means != nil || b.Slots != nil || b.Tree.Nodes != nil {
			t.Errorf("bound: %v", x)
		}
	}
}
