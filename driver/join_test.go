package driver_test

import (
	"math/rand"
	"reflect"
	"slices"
	"strconv"
	"testing"

	"cotter/api"
	"cotter/driver"
	"cotter/image"
	"cotter/link"
	"cotter/objf"
)

// joined is what Join must answer: of objects' forms, by the layers below alone.
func joined(l []string) (api.Image, api.Errno) {
	var objects []api.Object
	for _, s := range l {
		o, e := objf.Read(s)
		if e != api.OK {
			return api.Image{}, api.ErrObject
		}
		objects = append(objects, o)
	}
	im, e := link.Link(objects...)
	if e == api.OK && image.Check(im) != api.OK {
		return api.Image{}, api.ErrObject
	}
	return im, e
}

// code is an object's, with a symbol at its beginning.
func code(t *testing.T, name string, kind int, text string, relocs ...api.Reloc) string {
	t.Helper()
	return written(t, api.Object{Code: text, Syms: []api.Sym{{Name: name, Kind: kind}}, Relocs: relocs})
}

func TestJoin(t *testing.T) {
	halt := code(t, "t", api.SymThread, "\x20")
	callee := code(t, "f", api.SymCode, "\x18")
	call := func(name string, kind int) string {
		return code(t, "u", api.SymThread, "\x17\x00\x00\x00\x00\x20", api.Reloc{At: 1, Kind: kind, Name: name})
	}
	many := []string{halt}
	for i := range 16 {
		many = append(many, code(t, "f"+strconv.Itoa(i), api.SymCode, "\x18"))
	}
	type list = []string
	for i, c := range []struct {
		l []string
		e api.Errno
	}{
		{nil, api.ErrLarge},
		{list{""}, api.ErrObject},
		{list{halt}, api.OK},
		{list{halt, ""}, api.ErrObject},
		{list{halt + "\x00"}, api.ErrObject},
		{list{halt, halt}, api.ErrDuplicate},
		{list{halt, halt, ""}, api.ErrObject}, // forms are asked first
		{list{code(t, "t", api.SymThread, "\x00")}, api.ErrObject},
		{list{code(t, "t", api.SymThread, "\x19\xff")}, api.ErrObject}, // a jump into itself
		{list{code(t, "t", api.SymThread, "\x19\xfe")}, api.OK},
		{list{code(t, "t", api.SymThread, "\x00"), halt}, api.ErrDuplicate}, // link's errors are ahead of what may not be run
		{list{code(t, "v", api.SymThread, "\x00"), call("f", api.RelJump)}, api.ErrUndefined},
		{list{call("f", api.RelJump), callee}, api.OK},
		{list{callee, call("f", api.RelJump)}, api.OK},
		{list{call("f", api.RelAddr), callee}, api.ErrType},
		{list{callee}, api.ErrLarge}, // no threads
		{many, api.ErrArg},
		{many[:16], api.OK},
	} {
		twins := slices.Clone(c.l)
		for range 2 {
			im, e := driver.Join(c.l...)
			want, same := joined(c.l)
			if e != c.e || same != c.e || !reflect.DeepEqual(im, want) && e == api.OK || e != api.OK && !reflect.DeepEqual(im, api.Image{}) {
				t.Errorf("P23.3: case %d: %v, error %d; want %d", i, im, e, c.e)
			}
			spoil(im.Data, 9)
			spoil(im.Syms, api.Sym{Name: "spoilt"})
		}
		if !slices.Equal(twins, c.l) {
			t.Errorf("R5: case %d is changed", i)
		}
	}
}

// Forms of compiled modules, some of whose bytes are changed.
func TestJoinSpoilt(t *testing.T) {
	seen := map[api.Errno]int{}
	for seed := range int64(150) {
		_, l, r := madeUp(seed)
		forms := sharedObjects(t, reads(t, l))
		for _, s := range l {
			o, _ := driver.Compile(s)
			forms = append(forms, written(t, o))
		}
		for range 10 {
			some := slices.Clone(forms)
			if r.Intn(10) == 0 { // locks and queues alone
				some = sharedObjects(t, reads(t, l))
			} else {
				spoilForms(r, some)
			}
			want, e := joined(some)
			im, f := driver.Join(some...)
			if f != e || !reflect.DeepEqual(im, want) {
				t.Fatalf("P23.3: seed %d: error %d; want %d", seed, f, e)
			}
			seen[f]++
		}
	}
	for _, e := range []api.Errno{api.OK, api.ErrObject, api.ErrDuplicate, api.ErrUndefined, api.ErrLarge} {
		if seen[e] < 5 {
			t.Errorf("too few errors %d: %v", e, seen)
		}
	}
}

func spoilForms(r *rand.Rand, forms []string) {
	for range r.Intn(3) {
		i := r.Intn(len(forms))
		if r.Intn(4) == 0 {
			forms[i] = forms[r.Intn(len(forms))]
			continue
		}
		b := []byte(forms[i])
		b[r.Intn(len(b))] = byte(r.Intn(256))
		forms[i] = string(b)
	}
}
