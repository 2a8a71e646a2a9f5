package whole

import (
	"cotter/api"
	"cotter/src"
)

// maxUnseen is how many operations that nobody sees a thread of the sources may do, one behind the other: more than it must be able to.
const maxUnseen = 100000

// follower is the sources' machine, and the picks that were done.
type follower struct {
	*src.Machine
	picks []int
}

// follow lets the sources do acts in an order, each as soon as its thread comes to it; ErrLarge, if one does not come to its act.
func follow(modules []api.Module, acts []api.Act, order []int) (*follower, api.Errno) {
	m, e := src.New(modules...)
	if e != api.OK {
		return nil, e
	}
	f := &follower{Machine: m}
	for _, k := range order {
		if !f.reach(acts[k]) {
			return nil, api.ErrLarge
		}
	}
	return f, api.OK
}

// reach lets a thread go on till it has done an act. Its end, and a fault, are seen no sooner than they are there.
func (f *follower) reach(act api.Act) bool {
	t := act.Thread
	want := api.Act{Thread: t, Do: act.Do, Name: act.Name, Arg: act.Arg, Back: -1}
	for range maxUnseen {
		next, _ := f.Next(t)
		if next.Do != 0 && next != want || !f.Do(t) {
			return false
		}
		f.picks = append(f.picks, t)
		if next.Do != 0 {
			return true
		}
		if _, on := f.Next(t); !on {
			return act.Do == api.DoPrint
		}
	}
	return false
}
