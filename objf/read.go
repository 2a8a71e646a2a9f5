package objf

import (
	"cotter/api"
	"cotter/word"
)

// text is what is read. Where it has not what is asked for, it panics: Read recovers that.
type text string

func (t text) piece(at int, size int) string {
	if size > len(t)-at {
		panic(api.ErrObject)
	}
	return string(t[at : at+size])
}

// number tells the place behind it, too.
func (t text) number(at int) (uint64, int) {
	u, behind, e := word.Take(string(t), at)
	if e != api.OK {
		panic(e)
	}
	return u, behind
}

// reader goes along a text.
type reader struct {
	text
	at int
}

func (r *reader) take(size int) string {
	s := r.piece(r.at, size)
	r.at += size
	return s
}

func (r *reader) kind() int {
	return int(r.take(1)[0])
}

// upTo reads a number, and keeps those away for which there is no int, or no room.
func (r *reader) upTo(most int) int {
	u, behind := r.number(r.at)
	if u > uint64(most) {
		panic(api.ErrObject)
	}
	r.at = behind
	return int(u)
}

func (r *reader) long() int64 {
	n, e := word.Number(r.take(longSize))
	if e != api.OK {
		panic(e)
	}
	return n
}

func (r *reader) name() string {
	return r.take(r.upTo(maxName))
}

// object reads all of the text.
func (r *reader) object() api.Object {
	if r.take(len(mark)) != mark {
		panic(api.ErrObject)
	}
	var o api.Object
	o.Code = r.take(r.upTo(api.MaxCode))
	for range r.upTo(api.MaxData) {
		o.Data = append(o.Data, r.long())
	}
	for range r.upTo(api.MaxSyms) {
		o.Syms = append(o.Syms, r.sym())
	}
	for range r.upTo(api.MaxRelocs) {
		o.Relocs = append(o.Relocs, r.reloc())
	}
	if r.at != len(r.text) || Check(o) != api.OK {
		panic(api.ErrObject)
	}
	return o
}

// sym and reloc go field by field, since the form's order is what counts.
func (r *reader) sym() api.Sym {
	var s api.Sym
	s.Name = r.name()
	s.Kind = r.kind()
	s.At = r.upTo(api.MaxCode)
	return s
}

func (r *reader) reloc() api.Reloc {
	var l api.Reloc
	l.At = r.upTo(api.MaxCode)
	l.Kind = r.kind()
	l.Name = r.name()
	l.Add = r.long()
	return l
}
