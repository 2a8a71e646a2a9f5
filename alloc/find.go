package alloc

import (
	"cmp"
	"slices"

	"cotter/api"
	"cotter/flow"
)

const (
	firstRegister = 1
	lastRegister  = 4
	firstSlot     = 8
)

func isRegister(place int) bool {
	return place >= firstRegister && place <= lastRegister
}

func isSlot(place int, slots int) bool {
	return place >= firstSlot && place < firstSlot+slots
}

// after is the next place: the slots come behind the registers.
func after(place int) int {
	if place == lastRegister {
		return firstSlot
	}
	return place + 1
}

// finder finds places: unlike are the temps from which each one's place must differ; a temp that has no place yet is nowhere, 0.
type finder struct {
	*life
	unlike []flow.Set
	where  []int
}

func newFinder(f api.Func) *finder {
	s := &finder{life: newLife(f), unlike: make([]flow.Set, f.Temps), where: make([]int, f.Temps)}
	for p := range s.apart() {
		s.unlike[p.one].Add(p.other)
		s.unlike[p.other].Add(p.one)
	}
	return s
}

// find never needs more slots than there are temps.
func (s *finder) find() api.Alloc {
	kept, slots := s.kept(), 0
	for _, r := range s.ranked() {
		from := firstRegister
		if kept.Has(r.temp) {
			from = firstSlot
		}
		place := s.free(r.temp, from)
		s.where[r.temp] = place
		slots = max(slots, place-firstSlot+1)
	}
	return api.Alloc{Where: s.where, Slots: slots}
}

// free is the first place, from one on, that no temp has from which this one's must differ.
func (s *finder) free(temp int, from int) int {
	place := from
search:
	for ; ; place = after(place) {
		for other := range s.unlike[temp].All() {
			if s.where[other] == place {
				continue search
			}
		}
		break search
	}
	return place
}

// rank is how often a temp is read and written.
type rank struct {
	uses int
	temp int
}

// ranked are the temps, those that are used most first: there are few registers.
func (s *finder) ranked() []rank {
	l := make([]rank, s.Temps)
	for t := range l {
		l[t].temp = t
	}
	for _, o := range s.Code {
		if d := flow.Writes(o); d != -1 {
			l[d].uses++
		}
		for t := range flow.Reads(o) {
			l[t].uses++
		}
	}
	slices.SortFunc(l, compare)
	return l
}

func compare(a, b rank) int {
	return cmp.Or(cmp.Compare(b.uses, a.uses), cmp.Compare(a.temp, b.temp))
}
