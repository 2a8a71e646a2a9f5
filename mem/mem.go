// Package mem is layer 2, memory: see shared/doc/02-mem.md.
package mem

import "cotter/api"

const (
	wordSize   = 8
	maxRegions = 16
	maxBase    = 1 << 40
	maxWords   = 65536
)

// Memory is regions of words.
type Memory struct {
	touched
	regions []api.Region
}

// New makes one.
func New(l []api.Region) (*Memory, api.Errno) {
	if !mayBe(l) {
		return nil, api.ErrArg
	}
	m := &Memory{touched: newTouched()}
	for _, r := range l {
		m.regions = append(m.regions, api.Region{Base: r.Base, Words: copied(r.Words), Write: r.Write})
	}
	return m, api.OK
}

func mayBe(l []api.Region) bool {
	if len(l) > maxRegions {
		return false
	}
	for i, r := range l {
		if r.Base%wordSize != 0 || r.Base < 0 || r.Base > maxBase || len(r.Words) > maxWords {
			return false
		}
		for _, other := range l[:i] {
			if overlap(r, other) {
				return false
			}
		}
	}
	return true
}

// overlap holds, too, where one of both has no words and its base lies truly inside the other one; not at that one's base or end.
func overlap(a api.Region, b api.Region) bool {
	return a.Base < end(b) && b.Base < end(a)
}

func end(r api.Region) int64 {
	return r.Base + wordSize*int64(len(r.Words))
}

func copied(l []int64) []int64 {
	out := make([]int64, len(l))
	copy(out, l)
	return out
}

// Load and Store touch a word.
func (m *Memory) Load(addr int64) (int64, api.Errno) {
	region, at, ok := m.find(addr)
	if !ok {
		return 0, api.ErrFault
	}
	m.read(addr)
	return m.regions[region].Words[at], api.OK
}

func (m *Memory) Store(addr int64, n int64) api.Errno {
	region, at, ok := m.find(addr)
	if !ok || !m.regions[region].Write {
		return api.ErrFault
	}
	m.wrote(addr)
	m.regions[region].Words[at] = n
	return api.OK
}

// find tells in which region an address lies, and which of its words that is.
// It holds for no memory at all, as the other methods do: New answers nil beside an error.
func (m *Memory) find(addr int64) (int, int64, bool) {
	if m == nil || addr%wordSize != 0 {
		return 0, 0, false
	}
	for i, r := range m.regions {
		if r.Base <= addr && addr < end(r) {
			return i, (addr - r.Base) / wordSize, true
		}
	}
	return 0, 0, false
}

// Foot is what was touched since New, or since the last Foot.
func (m *Memory) Foot() api.Foot {
	if m == nil {
		return api.Foot{}
	}
	f := m.listed()
	m.forget()
	return f
}

// Words are a region's, as they are now.
func (m *Memory) Words(region int) []int64 {
	if m == nil || region < 0 || region >= len(m.regions) {
		return nil
	}
	return copied(m.regions[region].Words)
}
