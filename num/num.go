// Package num is layer 1: numbers of so many bytes: see shared/doc/01-num.md.
package num

import "theseus/api"

// maxSize is the document's, and keeps every number and every shift within Go's int.
const maxSize = 4

// Put is a number as bytes, Take the number that bytes begin with, Row are some numbers.
func Put(n, size int) ([]byte, api.Errno) {
	if !sizeMay(size) || n < 0 || n >= 1<<(8*size) {
		return nil, api.ErrSize
	}
	b := make([]byte, size)
	for i := range size {
		b[size-1-i] = byte(n >> (8 * i))
	}
	return b, api.OK
}

func Take(b []byte, size int) (n int, e api.Errno) {
	if !sizeMay(size) {
		return 0, api.ErrSize
	}
	if len(b) < size {
		return 0, api.ErrShort
	}
	for i := range size {
		n = n<<8 | int(b[i])
	}
	return n, api.OK
}

func Row(size int, l ...int) ([]byte, api.Errno) {
	// Put can't tell of the size, if there is no number.
	if !sizeMay(size) {
		return nil, api.ErrSize
	}
	row := make([]byte, 0, size*len(l))
	for _, n := range l {
		b, e := Put(n, size)
		if e != api.OK {
			return nil, e
		}
		row = append(row, b...)
	}
	return row, api.OK
}

func sizeMay(size int) bool { return 1 <= size && size <= maxSize }
