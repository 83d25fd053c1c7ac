package unssa

// list is one that grows, in memory of its own.
type list[T any] struct{ items []T }

func (l *list[T]) put(more ...T) { l.items = append(l.items, more...) }

// copied makes a list anew.
func copied[T any](items []T) []T {
	var l list[T]
	l.put(items...)
	return l.items
}
