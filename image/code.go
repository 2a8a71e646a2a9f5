package image

import (
	"cotter/api"
	"cotter/ins"
	"cotter/objf"
)

const wordSize = 8

// starts are the places at which instructions begin.
type starts map[int64]struct{}

func (s starts) has(at int64) bool {
	_, ok := s[at]
	return ok
}

func mayBe(im api.Image) bool {
	if objf.Check(api.Object{Code: im.Code, Data: im.Data, Syms: im.Syms}) != api.OK {
		return false
	}
	if n := len(Threads(im)); n < 1 || n > api.MaxThreads {
		return false
	}
	l, e := ins.All(im.Code)
	if e != api.OK {
		return false
	}
	s := startsOf(l)
	return s.reach(l) && s.bear(im.Syms) && addressesMayBe(l, len(im.Data))
}

func startsOf(l []api.Ins) starts {
	s := starts{}
	at := 0
	for _, i := range l {
		s[int64(at)] = struct{}{}
		at += ins.Size(i.Op)
	}
	return s
}

// reach tells whether all jumps and calls go to starts.
func (s starts) reach(l []api.Ins) bool {
	behind := 0
	for _, i := range l {
		behind += ins.Size(i.Op)
		if goesFar(i.Op) && !s.has(int64(behind)+i.N) {
			return false
		}
	}
	return true
}

func goesFar(op int) bool {
	switch op {
	case api.JMP, api.JZ, api.JNZ, api.CALL, api.JMPS, api.JZS, api.JNZS:
		return true
	}
	return false
}

// bear tells whether all symbols that name code stand at starts.
func (s starts) bear(l []api.Sym) bool {
	for _, y := range l {
		if y.Kind != api.SymData && !s.has(int64(y.At)) {
			return false
		}
	}
	return true
}

// addressesMayBe tells whether all addresses are of words that the data has.
func addressesMayBe(l []api.Ins, words int) bool {
	for _, i := range l {
		if i.Op != api.ADR {
			continue
		}
		far := i.N - api.DataBase
		if far < 0 || far%wordSize != 0 || far >= int64(wordSize*words) {
			return false
		}
	}
	return true
}
