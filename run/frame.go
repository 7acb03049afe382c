package run

import (
	"slices"

	"quickchange/api"
)

// frame is a call that runs: its method, of the class where that was found, by plain or by fast code, and what it works
// with.
type frame struct {
	class  int
	method api.Method
	self   api.Value
	args   []api.Value
	temps  []api.Value
	stack  []api.Value
	code   []api.Instr
	at     int
	fast   bool
}

// begin has f at its first instruction, of fast code, if there is some.
func (f *frame) begin(quick api.Fast, fast bool) {
	if fast {
		f.code, f.temps, f.fast = quick.Code, rooms(quick.Temps), true
		return
	}
	f.code, f.temps = f.method.Code, rooms(f.method.Temps)
}

// leaveFast has f go on in the plain code, that knows its own temporaries alone.
func (f *frame) leaveFast(at int) {
	temps := rooms(f.method.Temps)
	copy(temps, f.temps)
	f.code, f.temps, f.at, f.fast = f.method.Code, temps, at, false
}

// site is where x is sent from, at instruction at: fast code says of each send where that is in the plain code.
func (f *frame) site(at int, x api.Instr) api.Site {
	if f.fast {
		at = x.C
	}
	return api.Site{Class: f.class, Name: f.method.Name, At: at}
}

func (f *frame) push(v api.Value) {
	f.stack = append(f.stack, v)
}

// pop is what was on top; nil, if there is nothing, as never happens in code that is right.
func (f *frame) pop() api.Value {
	v := f.below(0)
	f.stack = f.stack[:max(len(f.stack)-1, 0)]
	return v
}

// popArgs is the n topmost values, the last one on top.
func (f *frame) popArgs(n int) []api.Value {
	from := len(f.stack) - min(max(n, 0), len(f.stack))
	args := slices.Clone(f.stack[from:])
	f.stack = f.stack[:from]
	return args
}

// below is what lies below the n topmost values.
func (f *frame) below(n int) api.Value {
	return entry(f.stack, len(f.stack)-1-n)
}

// rooms is so many nils; no code that is right asks for more than MaxRooms, and make might panic at any number.
func rooms(n int) []api.Value {
	return make([]api.Value, min(max(n, 0), api.MaxRooms))
}

// entry is l's entry n, or nil, if there is none.
func entry(l []api.Value, n int) api.Value {
	if n < 0 || n >= len(l) {
		return api.Value{}
	}
	return l[n]
}

// setEntry has v as l's entry n, if there is one.
func setEntry(l []api.Value, n int, v api.Value) {
	if n >= 0 && n < len(l) {
		l[n] = v
	}
}
