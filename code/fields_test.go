package code

import (
	"bytes"
	"testing"
)

// TestFieldsAreApart: nothing that is done with a field reaches what follows.
func TestFieldsAreApart(t *testing.T) {
	all := []byte{1, 2, 3, 4, 5, 6, 7, 8, 9}
	f := fields{bytes: all}
	for i, size := range []int{1, 0, 4, 3} {
		from := f.next
		field := f.cut(size)
		if len(field) != size || cap(field) != size || !bytes.Equal(field, all[from:from+size]) || f.left() != 9-from-size {
			t.Errorf("field %d: % x, room for %d, %d left", i, field, cap(field), f.left())
		}
		if grown := append(field, 99); len(grown) != size+1 || all[from+size] == 99 {
			t.Errorf("field %d grows into what follows", i)
		}
	}
	put(all[2:6:6], -2)
	if want := []byte{1, 2, 0xFE, 0xFF, 0xFF, 0xFF, 7, 8, 9}; !bytes.Equal(all, want) || numberIn(all[2:6]) != 1<<32-2 {
		t.Errorf("% x, want % x", all, want)
	}
}
