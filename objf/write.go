package objf

import (
	"cotter/api"
	"cotter/word"
)

// form is that of an object that may be.
func form(o api.Object) []byte {
	b := appendText([]byte(mark), o.Code)
	b = appendNumber(b, len(o.Data))
	for _, n := range o.Data {
		b = appendLong(b, n)
	}
	b = appendNumber(b, len(o.Syms))
	for _, s := range o.Syms {
		b = appendText(b, s.Name)
		b = append(b, byte(s.Kind))
		b = appendNumber(b, s.At)
	}
	b = appendNumber(b, len(o.Relocs))
	for _, r := range o.Relocs {
		b = appendNumber(b, r.At)
		b = append(b, byte(r.Kind))
		b = appendText(b, r.Name)
		b = appendLong(b, r.Add)
	}
	return b
}

func appendNumber(b []byte, n int) []byte {
	return append(b, word.Put(uint64(n))...)
}

func appendText(b []byte, s string) []byte {
	return append(appendNumber(b, len(s)), s...)
}

// appendLong needs no error: all numbers fit in eight bytes.
func appendLong(b []byte, n int64) []byte {
	s, _ := word.Bytes(n, longSize)
	return append(b, s...)
}
