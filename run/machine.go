package run

import (
	"quickchange/api"
	"quickchange/class"
	"quickchange/value"
)

// machine is a run: its world so far, and what all its calls use up together.
type machine struct {
	world api.World
	fuel  int
	sends int
	calls int
	turns int
	look  api.Look
	quick api.Quick
}

// first is what comes of c, that is no OpSend, and has no site that look could be told.
func (m *machine) first(c api.Call) (api.Value, api.Errno) {
	found, number := class.Find(m.world, value.Class(m.world.Heap, c.Self), c.Name)
	return m.enter(found, number, c.Self, c.Args)
}

// enter is what comes of a method that was found, or not.
func (m *machine) enter(found, number int, self api.Value, args []api.Value) (api.Value, api.Errno) {
	if !m.has(found, number) {
		return api.Value{}, api.ErrSend
	}
	method := m.world.Classes[found].Methods[number]
	if method.Args != len(args) {
		return api.Value{}, api.ErrFit
	}
	if method.Prim != api.PrimNone {
		return m.primitive(method.Prim, self, args)
	}
	if err := m.countCall(); err != api.OK {
		return api.Value{}, err
	}
	f := frame{class: found, method: method, self: self, args: args}
	f.begin(m.quick(found, number))
	m.calls++
	v, err := m.finish(&f)
	m.calls--
	return v, err
}

// has: what was looked for elsewhere may be told to be where nothing is.
func (m *machine) has(found, number int) bool {
	return found >= 0 && found < len(m.world.Classes) && number >= 0 && number < len(m.world.Classes[found].Methods)
}

func (m *machine) primitive(prim int, self api.Value, args []api.Value) (api.Value, api.Errno) {
	if err := m.countSend(); err != api.OK {
		return api.Value{}, err
	}
	return value.Prim(prim, self, entry(args, 0))
}

func (m *machine) countSend() api.Errno {
	if m.sends >= m.fuel {
		return api.ErrFuel
	}
	m.sends++
	return api.OK
}

// countCall counts a send that is a call too: one that finds no room is not counted.
func (m *machine) countCall() api.Errno {
	switch {
	case m.sends >= m.fuel:
		return api.ErrFuel
	case m.calls >= api.MaxDeep:
		return api.ErrDeep
	}
	m.sends++
	return api.OK
}

// finish is what comes of f, from where it is on.
func (m *machine) finish(f *frame) (api.Value, api.Errno) {
	for f.at >= 0 && f.at < len(f.code) {
		at := f.at
		x := f.code[at]
		if x.Op == api.OpBack {
			return f.pop(), api.OK
		}
		f.at++
		if err := m.step(f, at, x); err != api.OK {
			return api.Value{}, err
		}
	}
	return api.Value{}, api.ErrEnd
}
