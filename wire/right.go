package wire

import (
	"slices"

	"quickchange/api"
	"quickchange/class"
	"quickchange/code"
	"quickchange/value"
)

func wrongSize(x api.World) api.Errno {
	switch {
	case !within(len(x.Classes), api.ClassFirst, api.MaxClasses) || len(x.Heap) > api.MaxHeap:
		return api.ErrMany
	case !within(x.Epoch, 0, api.MaxNumber):
		return api.ErrRange
	}
	return api.OK
}

// wrongClasses tells what is wrong with classes, whatever methods they have.
func wrongClasses(x api.World) api.Errno {
	first := class.New().Classes
	ahead := map[string]int{}
	for n, c := range x.Classes {
		_, taken := ahead[c.Name]
		switch {
		case taken || !class.Name(c.Name):
			return api.ErrName
		case n < len(first) && c.Name != first[n].Name:
			return api.ErrName
		case n < len(first) && (c.Super != first[n].Super || c.Slots != 0):
			return api.ErrRange
		case n >= len(first) && !madeBelow(n, c.Super):
			return api.ErrRange
		case !within(c.Slots, 0, api.MaxSlots):
			return api.ErrRange
		}
		ahead[c.Name] = n
	}
	return api.OK
}

// wrongMethods is asked of classes that are right, so that no sum of their slots wraps round.
func wrongMethods(x api.World) api.Errno {
	for n, c := range x.Classes {
		if class.Slots(x, n) > api.MaxSlots {
			return api.ErrRange
		}
		if len(c.Methods) > api.MaxMethods {
			return api.ErrMany
		}
		for k := range c.Methods {
			if err := wrongMethod(x, n, k); err != api.OK {
				return err
			}
		}
	}
	return api.OK
}

// wrongMethod tells what is wrong with method k of class n.
func wrongMethod(x api.World, n, k int) api.Errno {
	l := x.Classes[n].Methods
	if k > 0 && l[k-1].Name >= l[k].Name {
		return api.ErrName
	}
	// Check refuses all primitives, those too that there are from the beginning on.
	if n == api.ClassInt && has(class.New().Classes[n].Methods, l[k]) {
		return api.OK
	}
	return code.Check(x, n, l[k]).Err
}

func wrongHeap(x api.World) api.Errno {
	for _, o := range x.Heap {
		if !madeBelow(len(x.Classes), o.Class) || len(o.Slots) != class.Slots(x, o.Class) {
			return api.ErrFit
		}
		for _, v := range o.Slots {
			if err := value.Wrong(v, len(x.Heap)); err != api.OK {
				return err
			}
		}
	}
	return api.OK
}

// madeBelow: whether c is `Object`, or a class that was made, of a number below n; of the others there are no objects,
// and no classes are made in them.
func madeBelow(n, c int) bool {
	return c == api.ClassObject || within(c, api.ClassFirst, n-1)
}

// has: whether m, with all that belongs to it, is in l.
func has(l []api.Method, m api.Method) bool {
	return slices.ContainsFunc(l, func(o api.Method) bool {
		return o.Name == m.Name && o.Args == m.Args && o.Temps == m.Temps && o.Prim == m.Prim && slices.Equal(o.Code, m.Code)
	})
}

func within(n, low, high int) bool {
	return n >= low && n <= high
}
