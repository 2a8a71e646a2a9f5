package link

import (
	"cotter/api"
	"cotter/word"
)

const (
	placeSize = 4
	wordSize  = 8
	mostAddr  = 1<<31 - 1
)

// linker makes the whole code of a layout.
type linker struct {
	layout
	code []byte
}

// fill tells whether all addresses fit.
func (k *linker) fill() bool {
	k.code = make([]byte, k.bytes)
	for _, p := range k.parts {
		copy(k.code[p.bytes:], p.Code)
		if !k.fillPlaces(p) {
			return false
		}
	}
	return true
}

func (k *linker) fillPlaces(p part) bool {
	for _, r := range p.Relocs {
		at := p.bytes + r.At
		n, ok := k.value(r, at)
		if !ok {
			return false
		}
		s, _ := word.Bytes(n, placeSize) // no jump is too far: all code is small
		copy(k.code[at:], s)
	}
	return true
}

// value is what a relocation's place is filled with, and whether it may be: an address may be too great or too small.
func (k *linker) value(r api.Reloc, at int) (int64, bool) {
	to := int64(k.found[r.Name].At)
	if r.Kind == api.RelJump {
		return to - int64(at+placeSize), true
	}
	addr := api.DataBase + wordSize*to + r.Add
	return addr, addr >= 0 && addr <= mostAddr
}

func (k *linker) image() api.Image {
	im := api.Image{Code: string(k.code)}
	for _, p := range k.parts {
		im.Data = append(im.Data, p.Data...)
		for _, s := range p.Syms {
			im.Syms = append(im.Syms, p.moved(s))
		}
	}
	return im
}
