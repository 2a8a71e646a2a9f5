package driver

import (
	"cotter/api"
	"cotter/check"
	"cotter/image"
	"cotter/link"
	"cotter/objf"
	"cotter/parse"
)

const maxObjects = 16

// maker is what was made so far of texts. Each of its stages makes more of it, or answers an error.
type maker struct {
	texts   []string
	modules []api.Module
	objects []api.Object
	image   api.Image
}

// builder goes from stage to stage, and keeps the first error.
type builder struct {
	maker
	err api.Errno
}

func newBuilder(l ...string) *builder {
	return &builder{maker: maker{texts: l}}
}

func (b *builder) through(stages ...func() api.Errno) {
	b.err = first(stages...)
}

// first is the first stage's error; what comes behind that stage is not done.
func first(stages ...func() api.Errno) api.Errno {
	for _, stage := range stages {
		if e := stage(); e != api.OK {
			return e
		}
	}
	return api.OK
}

// answer has no image beside an error.
func (b *builder) answer() (api.Image, api.Errno) {
	if b.err != api.OK {
		return api.Image{}, b.err
	}
	return b.image, api.OK
}

func (m *maker) parse() api.Errno {
	for _, s := range m.texts {
		module, e := parse.Parse(s)
		if e != api.OK {
			return e
		}
		m.modules = append(m.modules, module)
	}
	return api.OK
}

func (m *maker) fit() api.Errno {
	return check.Fit(m.modules...)
}

// count asks ahead of all work whether there are more objects than can be linked.
func (m *maker) count() api.Errno {
	n := len(m.modules)
	for _, module := range m.modules {
		for _, d := range module.Decls {
			if isShared(d) {
				n++
			}
		}
	}
	if n > maxObjects {
		return api.ErrLarge
	}
	return api.OK
}

func (m *maker) compile() api.Errno {
	for _, module := range m.modules {
		u := &unit{Module: module}
		if e := u.compile(); e != api.OK {
			return e
		}
		m.objects = append(m.objects, u.object)
	}
	return api.OK
}

// addShared adds an object for each lock and queue that the modules give.
func (m *maker) addShared() api.Errno {
	for _, module := range m.modules {
		for _, d := range module.Decls {
			if !isShared(d) {
				continue
			}
			object, e := shared(d)
			if e != api.OK {
				return e
			}
			m.objects = append(m.objects, object)
		}
	}
	return api.OK
}

func (m *maker) read() api.Errno {
	for _, s := range m.texts {
		object, e := objf.Read(s)
		if e != api.OK {
			return api.ErrObject
		}
		m.objects = append(m.objects, object)
	}
	return api.OK
}

// link: objects of modules that go together can be wrong in nothing but their size.
func (m *maker) link() (e api.Errno) {
	m.image, e = link.Link(m.objects...)
	return e
}

func (m *maker) mayRun() api.Errno {
	return image.Check(m.image)
}
