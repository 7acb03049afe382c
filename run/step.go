package run

import (
	"quickchange/api"
	"quickchange/class"
	"quickchange/value"
)

// step does x, that is instruction at of f's code; f is at the next one already.
func (m *machine) step(f *frame, at int, x api.Instr) api.Errno {
	if v, ok := m.pushed(f, x); ok {
		f.push(v)
		return api.OK
	}
	switch x.Op {
	case api.OpPop:
		f.pop()
	case api.OpDup:
		f.push(f.below(0))
	case api.OpSet:
		setEntry(f.temps, x.A, f.pop())
	case api.OpPut:
		m.setSlot(f.self, x.A, f.pop())
	case api.OpNew:
		return m.makeObject(f, x.A)
	case api.OpSend:
		return m.send(f, at, x)
	case api.OpJump:
		return m.jump(f, at, x.A)
	case api.OpElse:
		return m.orElse(f, at, x.A)
	default:
		return m.fastStep(f, x)
	}
	return api.OK
}

// pushed is what x pushes, if it does nothing else.
func (m *machine) pushed(f *frame, x api.Instr) (api.Value, bool) {
	switch x.Op {
	case api.OpSelf:
		return f.self, true
	case api.OpArg:
		return entry(f.args, x.A), true
	case api.OpTemp:
		return entry(f.temps, x.A), true
	case api.OpSlot:
		return value.Slot(m.world.Heap, f.self, x.A), true
	case api.OpInt:
		return api.Value{Kind: api.ValInt, N: x.A}, true
	case api.OpNil:
		return api.Value{}, true
	case api.OpFalse:
		return value.Bool(false), true
	case api.OpTrue:
		return value.Bool(true), true
	}
	return api.Value{}, false
}

// fastStep does what no plain code has (see doc/10-inline.md): in plain code there are no such kinds.
func (m *machine) fastStep(f *frame, x api.Instr) api.Errno {
	if !f.fast {
		return api.ErrKind
	}
	switch x.Op {
	case api.OpGuard:
		if value.Class(m.world.Heap, f.below(x.B)) != x.A {
			f.leaveFast(x.C)
		}
	case api.OpOf:
		f.push(value.Slot(m.world.Heap, entry(f.temps, x.A), x.B))
	case api.OpTo:
		m.setSlot(entry(f.temps, x.A), x.B, f.pop())
	case api.OpCount:
		return m.countCall()
	default:
		return api.ErrKind
	}
	return api.OK
}

func (m *machine) send(f *frame, at int, x api.Instr) api.Errno {
	args := f.popArgs(x.A)
	self := f.pop()
	found, number := m.look(f.site(at, x), value.Class(m.world.Heap, self), x.Name)
	v, err := m.enter(found, number, self, args)
	if err != api.OK {
		return err
	}
	f.push(v)
	return api.OK
}

func (m *machine) makeObject(f *frame, c int) api.Errno {
	heap, v, err := value.New(m.world.Heap, c, class.Slots(m.world, c))
	if err != api.OK {
		return err
	}
	m.world.Heap = heap
	f.push(v)
	return api.OK
}

// setSlot has what as slot n of the object v, if it is there.
func (m *machine) setSlot(v api.Value, n int, what api.Value) {
	if v.Kind == api.ValRef && v.N >= 0 && v.N < len(m.world.Heap) {
		setEntry(m.world.Heap[v.N].Slots, n, what)
	}
}

// jump has f go from instruction at to another one. What turns is counted in all calls: else a run might never end.
func (m *machine) jump(f *frame, at, to int) api.Errno {
	if to <= at {
		m.turns++
	}
	if m.turns > api.MaxTurns {
		return api.ErrStop
	}
	f.at = to
	return api.OK
}

func (m *machine) orElse(f *frame, at, to int) api.Errno {
	switch f.pop().Kind {
	case api.ValTrue:
		return api.OK
	case api.ValFalse:
		return m.jump(f, at, to)
	}
	return api.ErrBool
}
