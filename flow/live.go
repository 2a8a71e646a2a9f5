package flow

import (
	"iter"
	"math/bits"

	"cotter/api"
)

const wordBits = 64

// Set is a set of temps: a bit for each.
type Set [(api.MaxTemps + wordBits - 1) / wordBits]uint64

func (s *Set) Add(t int) {
	s[t/wordBits] |= 1 << (t % wordBits)
}

func (s *Set) Remove(t int) {
	s[t/wordBits] &^= 1 << (t % wordBits)
}

func (s *Set) Has(t int) bool {
	return s[t/wordBits]>>(t%wordBits)&1 == 1
}

// All goes along the temps, rising.
func (s Set) All() iter.Seq[int] {
	return func(yield func(int) bool) {
		for i, rest := range s {
			for ; rest != 0; rest &= rest - 1 { // without its lowest bit
				if !yield(i*wordBits + bits.TrailingZeros64(rest)) {
					return
				}
			}
		}
	}
}

// Join adds all of another one.
func (s *Set) Join(other Set) {
	for i, bits := range other {
		s[i] |= bits
	}
}

// Lives are the temps that are live ahead of each operation. Counts tells whether what an operation reads is needed at all, if those temps are live behind it; the more are live, the more count.
func Lives(code []api.Op, counts func(o api.Op, behind Set) bool) []Set {
	ahead := make([]Set, len(code))
	from := comingFrom(code)
	work, waits := make([]int, len(code)), make([]bool, len(code))
	for i := range work {
		work[i], waits[i] = i, true
	}
	for len(work) > 0 {
		at := work[len(work)-1]
		work, waits[at] = work[:len(work)-1], false
		now := Ahead(code[at], Behind(code, ahead, at), counts)
		if now == ahead[at] {
			continue
		}
		ahead[at] = now
		for _, i := range from[at] {
			if !waits[i] {
				work, waits[i] = append(work, i), true
			}
		}
	}
	return ahead
}

// Behind are the temps that are live behind an operation.
func Behind(code []api.Op, ahead []Set, at int) Set {
	var behind Set
	for i := range Next(code, at) {
		behind.Join(ahead[i])
	}
	return behind
}

// Ahead are the temps that are live ahead of an operation behind which those are, by what counts as in Lives.
func Ahead(o api.Op, behind Set, counts func(o api.Op, behind Set) bool) Set {
	needed := counts(o, behind)
	if d := Writes(o); d != -1 {
		behind.Remove(d)
	}
	if needed {
		for t := range Reads(o) {
			behind.Add(t)
		}
	}
	return behind
}

// comingFrom are, of each place, those behind which it may come.
func comingFrom(code []api.Op) [][]int {
	from := make([][]int, len(code))
	for at := range code {
		for i := range Next(code, at) {
			from[i] = append(from[i], at)
		}
	}
	return from
}
