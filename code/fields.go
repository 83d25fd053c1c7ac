package code

// mark is the first four bytes of all code.
const mark = "qr16"

// How many bytes the fields of numbers have.
const (
	small  = 1 // a length, Params, an Op, a register
	middle = 4 // how many functions or instructions, Main
	great  = 8 // Frame, N
)

// fields are bytes that are cut into fields, one behind the other.
type fields struct {
	bytes []byte
	next  int // where the next field begins
}

// left is how many bytes there are that were not cut off.
func (f *fields) left() int { return len(f.bytes) - f.next }

// cut is the next field. The third index keeps what follows apart: nothing that is done with a field reaches beyond its end.
func (f *fields) cut(size int) []byte {
	from := f.next
	f.next += size
	return f.bytes[from:f.next:f.next]
}

// put writes a number into a field, as much of it as the field holds.
func put(field []byte, n int) {
	for i := range field {
		field[i] = byte(n >> (8 * i))
	}
}

// numberIn is the number that stands in a field. One of eight bytes wraps.
func numberIn(field []byte) int {
	n := uint64(0)
	for i, b := range field {
		n |= uint64(b) << (8 * i)
	}
	return int(n)
}
