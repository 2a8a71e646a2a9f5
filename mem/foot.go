package mem

import (
	"maps"
	"slices"

	"cotter/api"
)

// touched is which words were read and which written, each once however often that was.
type touched struct {
	reads  map[int64]struct{}
	writes map[int64]struct{}
}

func newTouched() touched {
	return touched{reads: map[int64]struct{}{}, writes: map[int64]struct{}{}}
}

func (t *touched) read(addr int64) {
	t.reads[addr] = struct{}{}
}

func (t *touched) wrote(addr int64) {
	t.writes[addr] = struct{}{}
}

// listed sorts, since a map has no order of its own.
func (t *touched) listed() api.Foot {
	return api.Foot{Reads: slices.Sorted(maps.Keys(t.reads)), Writes: slices.Sorted(maps.Keys(t.writes))}
}

// forget takes new maps, not cleared ones: a cleared map keeps its room, and clearing that anew would cost as much each time.
func (t *touched) forget() {
	*t = newTouched()
}

// Join puts footprints together, Clash tells whether two would race.
func Join(l ...api.Foot) api.Foot {
	t := newTouched()
	for _, f := range l {
		for _, addr := range f.Reads {
			t.read(addr)
		}
		for _, addr := range f.Writes {
			t.wrote(addr)
		}
	}
	return t.listed()
}

func Clash(a api.Foot, b api.Foot) bool {
	return meet(a.Writes, b.Writes) || meet(a.Writes, b.Reads) || meet(b.Writes, a.Reads)
}

// meet keeps one list in a map, so that long lists in any order are not gone through again and again.
func meet(a []int64, b []int64) bool {
	among := map[int64]struct{}{}
	for _, addr := range a {
		among[addr] = struct{}{}
	}
	for _, addr := range b {
		if _, ok := among[addr]; ok {
			return true
		}
	}
	return false
}
