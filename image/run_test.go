package image_test

import (
	"math/rand"
	"testing"

	"cotter/api"
	"cotter/image"
	"cotter/ins"
	"cotter/tso"
)

// opAt is the instruction at a place of the code; 0, if none begins there.
func opAt(im api.Image, at int64) int {
	for place := 0; place < len(im.Code) && int64(place) <= at; {
		i, behind, _ := ins.Decode(im.Code, place)
		if int64(place) == at {
			return i.Op
		}
		place = behind
	}
	return 0
}

// follow lets the first thread go on till it has done a RET, or stored, or is at its end; and tells how many steps it did.
func follow(t *testing.T, im api.Image) int {
	t.Helper()
	m, e := tso.New(im)
	if e != api.OK {
		t.Fatalf("%v: the machine takes it not: error %d", im, e)
	}
	for step := range 40 {
		c, _ := m.Thread(0)
		if c.State != api.Running {
			return step
		}
		op := opAt(im, c.PC-api.CodeBase)
		switch op {
		case 0:
			t.Fatalf("P8.2: %q: after %d steps at %d, where nothing starts", im.Code, step, c.PC-api.CodeBase)
		case api.RET, api.ST, api.XCHG, api.XADD:
			return step
		}
		m.Do(0)
		m.Do(1)
	}
	return 40
}

func TestThreadsGoFromStartToStart(t *testing.T) {
	r := rand.New(rand.NewSource(84))
	steps := 0
	for range 20000 {
		im := randomImage(r)
		if image.Check(im) == api.OK {
			steps += follow(t, im)
		}
	}
	if steps < 20000 {
		t.Errorf("P8.2: %d steps alone: that tells little", steps)
	}
}
