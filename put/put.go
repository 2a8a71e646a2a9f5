// Package put puts the pieces of which the forms of objects and images are made behind bytes.
package put

import (
	"cotter/api"
	"cotter/word"
)

const longSize = 8

// Number puts one that is not below 0.
func Number(b []byte, n int) []byte {
	return append(b, word.Put(uint64(n))...)
}

// Text puts how many bytes there are, and these.
func Text(b []byte, s string) []byte {
	return append(Number(b, len(s)), s...)
}

// Long needs no error: all numbers fit in eight bytes.
func Long(b []byte, n int64) []byte {
	s, _ := word.Bytes(n, longSize)
	return append(b, s...)
}

// Sym puts a symbol whose Kind is one.
func Sym(b []byte, s api.Sym) []byte {
	b = Text(b, s.Name)
	b = append(b, byte(s.Kind))
	return Number(b, s.At)
}

// List puts how many elements there are, and each by one.
func List[T any](b []byte, l []T, one func([]byte, T) []byte) []byte {
	b = Number(b, len(l))
	for _, v := range l {
		b = one(b, v)
	}
	return b
}
