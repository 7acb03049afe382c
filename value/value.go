// Package value has values and objects: see doc/01-value.md.
package value

import (
	"math"

	"quickchange/api"
)

// Bool is true, or false, as a value.
func Bool(yes bool) api.Value {
	if yes {
		return api.Value{Kind: api.ValTrue}
	}
	return api.Value{Kind: api.ValFalse}
}

// Wrong tells what is wrong with v beside a heap of so many objects.
func Wrong(v api.Value, heap int) api.Errno {
	switch v.Kind {
	case api.ValNil, api.ValFalse, api.ValTrue:
		if v.N != 0 {
			return api.ErrForm
		}
	case api.ValInt:
		if v.N < -api.MaxNumber || v.N > api.MaxNumber {
			return api.ErrRange
		}
	case api.ValRef:
		if v.N < 0 || v.N >= heap {
			return api.ErrNone
		}
	default:
		return api.ErrKind
	}
	return api.OK
}

// Class is the class of v, whose object, if it is one, is in h.
func Class(h []api.Object, v api.Value) int {
	switch v.Kind {
	case api.ValNil:
		return api.ClassNil
	case api.ValFalse, api.ValTrue:
		return api.ClassBool
	case api.ValInt:
		return api.ClassInt
	}
	if isIn(h, v) {
		return h[v.N].Class
	}
	return api.ClassObject
}

// Own is a copy of h that shares no memory with it.
func Own(h []api.Object) []api.Object {
	own := make([]api.Object, len(h))
	for i, o := range h {
		own[i] = api.Object{Class: o.Class, Slots: ownSlots(o.Slots)}
	}
	return own
}

// New is h with one more object, and that object as a value.
func New(h []api.Object, class, slots int) ([]api.Object, api.Value, api.Errno) {
	// More slots than any answer may have are refused: make might panic, or find no memory.
	if len(h) >= api.MaxHeap || slots > math.MaxInt32 {
		return nil, api.Value{}, api.ErrFull
	}
	// The zero value is nil, so that new slots need no filling.
	made := api.Object{Class: class, Slots: make([]api.Value, max(slots, 0))}
	return append(Own(h), made), api.Value{Kind: api.ValRef, N: len(h)}, api.OK
}

// Slot is slot n of the object v, or nil, if there is no such object or slot.
func Slot(h []api.Object, v api.Value, n int) api.Value {
	if !isIn(h, v) || n < 0 || n >= len(h[v.N].Slots) {
		return api.Value{}
	}
	return h[v.N].Slots[n]
}

// Prim is what the primitive makes of two numbers.
func Prim(prim int, a, b api.Value) (api.Value, api.Errno) {
	if a.Kind != api.ValInt || b.Kind != api.ValInt {
		return api.Value{}, api.ErrInt
	}
	switch prim {
	case api.PrimAdd:
		return number(a.N + b.N), api.OK
	case api.PrimSub:
		return number(a.N - b.N), api.OK
	case api.PrimMul:
		return number(a.N * b.N), api.OK
	case api.PrimLess:
		return Bool(a.N < b.N), api.OK
	case api.PrimSame:
		return Bool(a.N == b.N), api.OK
	}
	return api.Value{}, api.ErrKind
}

func isIn(h []api.Object, v api.Value) bool {
	return v.Kind == api.ValRef && v.N >= 0 && v.N < len(h)
}

func ownSlots(l []api.Value) []api.Value {
	own := make([]api.Value, len(l))
	copy(own, l)
	return own
}

// number brings n back into the range of numbers; Go's remainder keeps the sign of n, as "towards 0" asks.
func number(n int) api.Value {
	return api.Value{Kind: api.ValInt, N: n % (api.MaxNumber + 1)}
}
