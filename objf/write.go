package objf

import (
	"cotter/api"
	"cotter/put"
)

// form is that of an object that may be.
func form(o api.Object) []byte {
	b := put.Text([]byte(mark), o.Code)
	b = put.List(b, o.Data, put.Long)
	b = put.List(b, o.Syms, put.Sym)
	return put.List(b, o.Relocs, putReloc)
}

func putReloc(b []byte, r api.Reloc) []byte {
	b = put.Number(b, r.At)
	b = append(b, byte(r.Kind))
	b = put.Text(b, r.Name)
	return put.Long(b, r.Add)
}
