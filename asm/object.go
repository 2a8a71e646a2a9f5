package asm

import (
	"cotter/api"
	"cotter/ins"
)

const placeSize = 4 // the bytes of the code that a relocation fills

// fits tells whether nothing is beyond its limit, ahead of anything being made.
func (y *layout) fits() bool {
	words, symbols, relocs := 0, 0, 0
	for _, t := range y.items {
		words += len(t.Words)
		if t.Kind == api.ItemWords || isShown(t) {
			symbols++
		}
		if y.isOpen(t) {
			relocs++
		}
	}
	return y.size <= api.MaxCode && words <= api.MaxData && symbols <= api.MaxSyms && relocs <= api.MaxRelocs
}

// isOpen is of items that a relocation fills.
func (y *layout) isOpen(t api.Item) bool {
	return t.Ins.Op == api.ADR || t.Ins.Op == api.CALL && !y.has(t.Name)
}

// symbolsMayBe tells whether all labels that others see stand at some code.
func (y *layout) symbolsMayBe() bool {
	for _, t := range y.items {
		if isShown(t) && y.placeOf(t.Name) == y.size {
			return false
		}
	}
	return true
}

func (y *layout) placeOf(label string) int {
	return y.pieces[y.names[label]].at
}

func (y *layout) object() api.Object {
	var o api.Object
	var code []byte
	for k, t := range y.items {
		switch t.Kind {
		case api.ItemIns:
			code = append(code, y.code(k)...)
			if y.isOpen(t) {
				o.Relocs = append(o.Relocs, reloc(t, len(code)-placeSize))
			}
		case api.ItemWords:
			o.Syms = append(o.Syms, api.Sym{Name: t.Name, Kind: api.SymData, At: len(o.Data)})
			o.Data = append(o.Data, t.Words...)
		case api.ItemGlobal:
			o.Syms = append(o.Syms, api.Sym{Name: t.Name, Kind: api.SymCode, At: y.placeOf(t.Name)})
		case api.ItemThread:
			o.Syms = append(o.Syms, api.Sym{Name: t.Name, Kind: api.SymThread, At: y.placeOf(t.Name)})
		}
	}
	o.Code = string(code)
	return o
}

// code needs no error: items that may be are instructions, and no distance of code that fits is too far.
func (y *layout) code(k int) string {
	t := y.items[k]
	i := t.Ins
	i.Op = y.pieces[k].op
	switch {
	case y.isOpen(t):
		i.N = 0
	case t.Name != "":
		i.N = int64(y.distance(k, y.names[t.Name]))
	}
	s, _ := ins.Encode(i)
	return s
}

func reloc(t api.Item, at int) api.Reloc {
	if t.Ins.Op == api.ADR {
		return api.Reloc{At: at, Kind: api.RelAddr, Name: t.Name, Add: t.Ins.N}
	}
	return api.Reloc{At: at, Kind: api.RelJump, Name: t.Name}
}
