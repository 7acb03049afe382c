package wire

import (
	"bytes"
	"strconv"

	"quickchange/api"
)

// reader takes words off a text; from the first thing on that is not written as it must be it is bad, and all that it
// reads is zero.
type reader struct {
	rest []byte
	bad  bool
}

func (r *reader) fail() {
	r.rest, r.bad = nil, true
}

// word is the next word, that has at least one byte: two blanks side by side have none between them.
func (r *reader) word() string {
	end := bytes.IndexByte(r.rest, ' ')
	if end < 1 {
		r.fail()
		return ""
	}
	s := string(r.rest[:end])
	r.rest = r.rest[end+1:]
	return s
}

func (r *reader) number() int {
	s := r.word()
	n, err := strconv.Atoi(s)
	// Atoi takes more than is ever written: `+`, `-0`, and needless noughts ahead.
	if err != nil || strconv.Itoa(n) != s {
		r.fail()
		return 0
	}
	return n
}

// count is how many things follow: it is bounded before room is made for them.
func (r *reader) count(most int) int {
	n := r.number()
	if !within(n, 0, most) {
		r.fail()
		return 0
	}
	return n
}

// list is so many things as the next word says, each taken by read.
func list[T any](r *reader, most int, read func() T) []T {
	l := make([]T, r.count(most))
	for i := range l {
		l[i] = read()
	}
	return l
}

func (r *reader) world() api.World {
	var x api.World
	x.Epoch = r.number()
	x.Classes = list(r, api.MaxClasses, r.class)
	x.Heap = list(r, api.MaxHeap, r.object)
	return x
}

func (r *reader) class() api.Class {
	var c api.Class
	c.Name = r.word()
	c.Super = r.number()
	c.Slots = r.number()
	c.Methods = list(r, api.MaxMethods, r.method)
	return c
}

func (r *reader) method() api.Method {
	var m api.Method
	m.Name = r.word()
	m.Args = r.number()
	m.Temps = r.number()
	m.Prim = r.number()
	m.Code = list(r, api.MaxCode, r.instr)
	return m
}

func (r *reader) instr() api.Instr {
	var i api.Instr
	i.Op = r.number()
	i.A = r.number()
	if i.Op == api.OpSend {
		i.Name = r.word()
	}
	return i
}

func (r *reader) object() api.Object {
	var o api.Object
	o.Class = r.number()
	o.Slots = list(r, api.MaxSlots, r.value)
	return o
}

func (r *reader) value() api.Value {
	var v api.Value
	v.Kind = r.number()
	v.N = r.number()
	return v
}
