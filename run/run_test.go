package run

import (
	"math"
	"reflect"
	"slices"
	"testing"

	"quickchange/api"
	"quickchange/class"
	"quickchange/wire"
)

func in(op, a int) api.Instr { return api.Instr{Op: op, A: a} }

func send(name string, args int) api.Instr { return api.Instr{Op: api.OpSend, A: args, Name: name} }

var (
	self  = in(api.OpSelf, 0)
	null  = in(api.OpNil, 0)
	yes   = in(api.OpTrue, 0)
	no    = in(api.OpFalse, 0)
	pop   = in(api.OpPop, 0)
	dup   = in(api.OpDup, 0)
	back  = in(api.OpBack, 0)
	count = in(api.OpCount, 0)
)

func arg(n int) api.Instr    { return in(api.OpArg, n) }
func temp(n int) api.Instr   { return in(api.OpTemp, n) }
func set(n int) api.Instr    { return in(api.OpSet, n) }
func slot(n int) api.Instr   { return in(api.OpSlot, n) }
func put(n int) api.Instr    { return in(api.OpPut, n) }
func push(n int) api.Instr   { return in(api.OpInt, n) }
func fresh(c int) api.Instr  { return in(api.OpNew, c) }
func jump(to int) api.Instr  { return in(api.OpJump, to) }
func elseTo(n int) api.Instr { return in(api.OpElse, n) }

func num(n int) api.Value { return api.Value{Kind: api.ValInt, N: n} }

func ref(n int) api.Value { return api.Value{Kind: api.ValRef, N: n} }

var (
	isNil   = api.Value{}
	isTrue  = api.Value{Kind: api.ValTrue}
	isFalse = api.Value{Kind: api.ValFalse}
)

func call(self api.Value, name string, args ...api.Value) api.Call {
	return api.Call{Self: self, Name: name, Args: args}
}

func came(v api.Value, sends int) api.Ran { return api.Ran{Value: v, Sends: sends} }

func failed(err api.Errno, sends int) api.Ran { return api.Ran{Err: err, Sends: sends} }

// meth is a method of a class.
type meth struct {
	class, args, temps int
	name               string
	code               []api.Instr
}

// world has class 4, of two slots, class 5 in it, of one more, and class 6, without slots; an object of each, and one of
// `Object`; and the methods. It is right; the marks in the spare room behind its lists no call may change, nor tell.
func world(t *testing.T, l ...meth) api.World {
	t.Helper()
	w := class.New()
	for _, x := range []api.Class{{Name: "Pair", Slots: 2}, {Name: "Triple", Super: 4, Slots: 1}, {Name: "Other"}} {
		w, _, _ = class.Make(w, x.Name, x.Super, x.Slots)
	}
	for _, x := range l {
		var err api.Errno
		if w, err = class.Install(w, x.class, api.Method{Name: x.name, Args: x.args, Temps: x.temps, Code: x.code}); err != api.OK {
			t.Fatalf("Install %s: error %d", x.name, err)
		}
	}
	slots := []api.Value{num(20), ref(1), num(666)}
	w.Heap = []api.Object{{Class: 4, Slots: slots[:2]}, {Class: 5, Slots: []api.Value{num(1), isNil, isTrue}}, {Class: 6}, {Class: 0}, {Class: 66}}[:4]
	if err := wire.Right(w); err != api.OK {
		t.Fatalf("the world is not right: error %d", err)
	}
	return w
}

// Numbers of the objects of world.
const (
	pair = iota
	triple
	other
	object
)

// one is a world of one method, of class 4, named m.
func one(t *testing.T, args, temps int, code ...api.Instr) api.World {
	t.Helper()
	return world(t, meth{4, args, temps, "m", code})
}

// same holds worlds against each other by their entries: copies have neither spare room nor nil lists.
func same(a, b api.World) bool {
	return reflect.DeepEqual(class.Own(a), class.Own(b))
}

// ran is what comes of Plain; whatever comes, what was handed in is as it was, a failure changes nothing, a right world
// stays right, and nothing but objects is otherwise.
func ran(t *testing.T, w api.World, c api.Call, fuel int) (api.World, api.Ran) {
	t.Helper()
	before, args := class.Own(w), slices.Clone(c.Args)
	x, r := Plain(w, c, fuel)
	if !same(w, before) || !slices.Equal(c.Args, args) {
		t.Errorf("%v, fuel %d: what was handed in was changed", c, fuel)
	}
	if r.Err != api.OK && !same(x, before) {
		t.Errorf("%v, fuel %d: the world is changed by a call that fails", c, fuel)
	}
	if r.Err != api.OK && r.Value != isNil {
		t.Errorf("%v, fuel %d: %v beside an error", c, fuel, r.Value)
	}
	if err := wire.Right(x); err != api.OK {
		t.Errorf("%v, fuel %d: the world is not right any more: error %d", c, fuel, err)
	}
	x.Heap, before.Heap = nil, nil
	if !same(x, before) {
		t.Errorf("%v, fuel %d: classes, or the epoch, are otherwise", c, fuel)
	}
	return Plain(w, c, fuel)
}

// check has a call run, and holds what comes of it against want.
func check(t *testing.T, name string, w api.World, c api.Call, fuel int, want api.Ran) {
	t.Helper()
	if _, r := ran(t, w, c, fuel); r != want {
		t.Errorf("%s: %v, fuel %d: %v comes, not %v", name, c, fuel, r, want)
	}
}

func TestE1Wrong(t *testing.T) {
	w := world(t)
	four := []api.Value{num(1), isNil, ref(3), isTrue}
	five := append(slices.Clone(four), num(5))
	wrong := api.Value{Kind: 5}
	for _, x := range []struct {
		name string
		c    api.Call
		fuel int
		want api.Errno
	}{
		{"right", call(ref(0), "m"), 10, api.OK},
		{"nobody need understand it", call(isNil, "nobody", num(1)), 0, api.OK},
		{"a long name", call(isNil, "abcdefghijkl"), 1, api.OK},
		{"a name too long", call(isNil, "abcdefghijklm"), 1, api.ErrName},
		{"no name", call(isNil, ""), 1, api.ErrName},
		{"a blank", call(isNil, "a b"), 1, api.ErrName},
		{"no name, and more", call(wrong, "", five...), -1, api.ErrName},
		{"as many arguments as may be", call(isNil, "m", four...), 1, api.OK},
		{"one more", call(isNil, "m", five...), 1, api.ErrMany},
		{"too many arguments, and more", call(wrong, "m", five...), -1, api.ErrMany},
		{"no fuel", call(isNil, "m"), 0, api.OK},
		{"as much fuel as may be", call(isNil, "m"), api.MaxFuel, api.OK},
		{"fuel below 0", call(isNil, "m"), -1, api.ErrRange},
		{"too much fuel", call(isNil, "m"), api.MaxFuel + 1, api.ErrRange},
		{"least fuel", call(isNil, "m"), math.MinInt, api.ErrRange},
		{"most fuel", call(isNil, "m"), math.MaxInt, api.ErrRange},
		{"fuel, and self", call(wrong, "m"), -1, api.ErrRange},
		{"self of no kind", call(wrong, "m"), 1, api.ErrKind},
		{"nil, but not just so", call(api.Value{N: 1}, "m"), 1, api.ErrForm},
		{"a number too large", call(num(api.MaxNumber+1), "m"), 1, api.ErrRange},
		{"the largest number", call(num(api.MaxNumber), "m"), 1, api.OK},
		{"the last object", call(ref(3), "m"), 1, api.OK},
		{"no such object", call(ref(4), "m"), 1, api.ErrNone},
		{"object below 0", call(ref(-1), "m"), 1, api.ErrNone},
		{"self, and an argument", call(ref(4), "m", wrong), 1, api.ErrNone},
		{"the first argument", call(isNil, "m", ref(4), wrong), 1, api.ErrNone},
		{"the second argument", call(isNil, "m", num(1), wrong, ref(4)), 1, api.ErrKind},
		{"the last argument", call(isNil, "m", num(1), num(1), num(1), num(-api.MaxNumber-1)), 1, api.ErrRange},
	} {
		if got := Wrong(w, x.c, x.fuel); got != x.want {
			t.Errorf("%s: Wrong is %d, not %d", x.name, got, x.want)
		}
		if x.want != api.OK {
			check(t, x.name, w, x.c, x.fuel, failed(x.want, 0))
		}
	}
}

func TestE1WhatIsCalled(t *testing.T) {
	w := world(t,
		meth{0, 0, 0, "who", []api.Instr{push(0), back}},
		meth{1, 0, 0, "who", []api.Instr{push(1), back}},
		meth{2, 0, 0, "who", []api.Instr{push(2), back}},
		meth{3, 0, 0, "who", []api.Instr{push(3), back}},
		meth{5, 0, 0, "who", []api.Instr{push(5), back}},
		meth{4, 2, 0, "two", []api.Instr{arg(1), back}})
	for v, want := range map[api.Value]int{isNil: 1, isTrue: 2, isFalse: 2, num(7): 3, ref(pair): 0, ref(triple): 5, ref(other): 0, ref(object): 0} {
		check(t, "whose method", w, call(v, "who"), 1, came(num(want), 1))
	}
	for _, x := range []struct {
		name string
		c    api.Call
		fuel int
		want api.Ran
	}{
		{"of the class above", call(ref(triple), "two", num(1), num(2)), 1, came(num(2), 1)},
		{"nobody understands it", call(ref(pair), "three"), 1, failed(api.ErrSend, 0)},
		{"those below do not count", call(ref(other), "two", num(1), num(2)), 1, failed(api.ErrSend, 0)},
		{"nobody, and no fuel", call(ref(pair), "three"), 0, failed(api.ErrSend, 0)},
		{"no argument", call(ref(pair), "two"), 1, failed(api.ErrFit, 0)},
		{"one argument", call(ref(pair), "two", num(1)), 1, failed(api.ErrFit, 0)},
		{"three arguments", call(ref(pair), "two", num(1), num(2), num(3)), 1, failed(api.ErrFit, 0)},
		{"an argument too much", call(ref(pair), "who", num(1)), 1, failed(api.ErrFit, 0)},
		{"it does not fit, and no fuel", call(ref(pair), "two"), 0, failed(api.ErrFit, 0)},
		{"no fuel", call(ref(pair), "who"), 0, failed(api.ErrFuel, 0)},
	} {
		check(t, x.name, w, x.c, x.fuel, x.want)
	}
}

func TestE1Primitives(t *testing.T) {
	w := world(t)
	for _, x := range []struct {
		name string
		c    api.Call
		fuel int
		want api.Ran
	}{
		{"a sum", call(num(2), "+", num(3)), 1, came(num(5), 1)},
		{"a difference", call(num(2), "-", num(3)), api.MaxFuel, came(num(-1), 1)},
		{"a product", call(num(2), "*", num(3)), 1, came(num(6), 1)},
		{"a sum too large", call(num(api.MaxNumber), "+", num(3)), 1, came(num(2), 1)},
		{"less", call(num(2), "<", num(3)), 1, came(isTrue, 1)},
		{"not the same", call(num(2), "=", num(3)), 1, came(isFalse, 1)},
		{"no number", call(num(2), "+", ref(0)), 1, failed(api.ErrInt, 1)},
		{"no argument", call(num(2), "+"), 1, failed(api.ErrFit, 0)},
		{"two arguments", call(num(2), "+", num(3), num(4)), 0, failed(api.ErrFit, 0)},
		{"no fuel", call(num(2), "+", num(3)), 0, failed(api.ErrFuel, 0)},
		{"no fuel, and no number", call(num(2), "+", isNil), 0, failed(api.ErrFuel, 0)},
		{"who has no primitives", call(isNil, "+", num(3)), 1, failed(api.ErrSend, 0)},
	} {
		check(t, x.name, w, x.c, x.fuel, x.want)
	}
}

// downs: `down` n calls itself n times more, and then does what then is; it answers what comes of that.
func downs(t *testing.T, then ...api.Instr) api.World {
	t.Helper()
	head := []api.Instr{arg(0), push(1), send("<", 1), elseTo(4 + len(then))}
	tail := []api.Instr{self, arg(0), push(1), send("-", 1), send("down", 1), back}
	return world(t,
		meth{4, 1, 0, "down", slices.Concat(head, then, tail)},
		meth{4, 0, 0, "me", []api.Instr{self, back}})
}

func TestE1Deep(t *testing.T) {
	leaf := downs(t, push(7), back)
	prim := downs(t, push(7), push(8), send("+", 1), back)
	more := downs(t, self, send("me", 0), back)
	// Each call sends `<`, and each but the last one `-`.
	for _, x := range []struct {
		name string
		w    api.World
		n    int
		fuel int
		want api.Ran
	}{
		{"one call", leaf, 0, 400, came(num(7), 2)},
		{"two calls", leaf, 1, 400, came(num(7), 5)},
		{"MaxDeep calls", leaf, api.MaxDeep - 1, 400, came(num(7), 59)},
		{"one call more", leaf, api.MaxDeep, 400, failed(api.ErrDeep, 60)},
		{"many more", leaf, 1000, 400, failed(api.ErrDeep, 60)},
		{"fuel is asked for first", leaf, api.MaxDeep, 60, failed(api.ErrFuel, 60)},
		{"fuel for one more", leaf, api.MaxDeep, 61, failed(api.ErrDeep, 60)},
		{"a primitive is no call", prim, api.MaxDeep - 1, 400, came(num(15), 60)},
		{"a call at the bottom", more, api.MaxDeep - 2, 400, came(ref(pair), 57)},
		{"no call at the bottom", more, api.MaxDeep - 1, 400, failed(api.ErrDeep, 59)},
		{"no call, and no fuel", more, api.MaxDeep - 1, 59, failed(api.ErrFuel, 59)},
	} {
		check(t, x.name, x.w, call(ref(pair), "down", num(x.n)), x.fuel, x.want)
	}
}

func TestE1CallsThatEndedAreNotDeep(t *testing.T) {
	many := slices.Repeat([]api.Instr{self, send("me", 0), pop}, 18)
	w := world(t,
		meth{4, 0, 0, "m", []api.Instr{self, send("many", 0), pop, self, send("many", 0), back}},
		meth{4, 0, 0, "many", append(many, self, back)},
		meth{4, 0, 0, "me", []api.Instr{self, back}})
	check(t, "calls side by side", w, call(ref(pair), "m"), 400, came(ref(pair), 1+19+19))
}

func TestE1Fuel(t *testing.T) {
	w := world(t,
		meth{4, 0, 0, "m", []api.Instr{self, send("two", 0), pop, push(1), push(2), send("+", 1), back}},
		meth{4, 0, 0, "two", []api.Instr{self, send("one", 0), back}},
		meth{4, 0, 0, "one", []api.Instr{push(1), back}})
	for fuel := range 4 {
		check(t, "too little", w, call(ref(pair), "m"), fuel, failed(api.ErrFuel, fuel))
	}
	for _, fuel := range []int{4, 5, api.MaxFuel} {
		check(t, "enough", w, call(ref(pair), "m"), fuel, came(num(3), 4))
	}
	forever := one(t, 0, 0, push(1), push(1), send("+", 1), pop, jump(0))
	check(t, "as many turns as may be", forever, call(ref(pair), "m"), api.MaxFuel, failed(api.ErrStop, 302))
	check(t, "as much fuel as there is", forever, call(ref(pair), "m"), 301, failed(api.ErrFuel, 301))
}

func TestE1TempsAreNilAtFirst(t *testing.T) {
	w := world(t,
		meth{4, 0, 1, "m", []api.Instr{push(9), set(0), self, send("n", 0), pop, self, send("n", 0), back}},
		meth{4, 0, 6, "n", []api.Instr{temp(0), push(5), set(0), push(6), set(5), back}})
	check(t, "of another call", w, call(ref(pair), "m"), 9, came(isNil, 3))
	check(t, "of the first call", w, call(ref(pair), "n"), 9, came(isNil, 1))
	w = world(t,
		meth{4, 0, 1, "m", []api.Instr{push(9), set(0), self, send("n", 0), pop, temp(0), back}},
		meth{4, 0, 1, "n", []api.Instr{push(5), set(0), self, back}})
	check(t, "a call keeps its own", w, call(ref(pair), "m"), 9, came(num(9), 2))
	w = one(t, 0, 6, push(1), set(5), temp(5), temp(4), pop, back)
	check(t, "the last one", w, call(ref(pair), "m"), 9, came(num(1), 1))
}

func TestE1FailuresChangeNothing(t *testing.T) {
	w := world(t,
		meth{4, 0, 0, "m", []api.Instr{push(5), put(0), fresh(4), put(1), self, send("n", 0), back}},
		meth{4, 0, 0, "n", []api.Instr{push(6), put(1), null, elseTo(4), self, back}})
	check(t, "it fails late", w, call(ref(pair), "m"), 9, failed(api.ErrBool, 2))
	check(t, "of the class below", w, call(ref(triple), "m"), 9, failed(api.ErrBool, 2))
	check(t, "without fuel", w, call(ref(pair), "m"), 1, failed(api.ErrFuel, 1))
}

// mark changes all that can be reached in w, its spare room too.
func mark(w api.World) {
	for _, c := range w.Classes[:cap(w.Classes)] {
		for _, m := range c.Methods[:cap(c.Methods)] {
			for i := range m.Code[:cap(m.Code)] {
				m.Code[:cap(m.Code)][i] = in(77, 77)
			}
		}
		clear(c.Methods[:cap(c.Methods)])
	}
	for _, o := range w.Heap[:cap(w.Heap)] {
		clear(o.Slots[:cap(o.Slots)])
	}
	clear(w.Classes[:cap(w.Classes)])
	clear(w.Heap[:cap(w.Heap)])
}

func TestE1WhatIsAnsweredIsNew(t *testing.T) {
	w := one(t, 1, 0, arg(0), put(0), fresh(5), back)
	for _, c := range []api.Call{call(ref(pair), "m", num(1)), call(ref(pair), "n"), call(ref(pair), "")} {
		before := class.Own(w)
		x, r := Plain(w, c, 9)
		mark(x)
		if !same(w, before) {
			t.Errorf("%v: what came shares memory with what was handed in", c)
		}
		v := class.Own(w)
		x, _ = Plain(v, c, 9)
		mark(v)
		if y, s := Plain(before, c, 9); !same(x, y) || r != s {
			t.Errorf("%v: what was handed in was kept", c)
		}
	}
}

func TestE1NilIsEmpty(t *testing.T) {
	w := class.New()
	w.Classes[api.ClassNil].Methods = []api.Method{{Name: "m", Code: []api.Instr{self, back}}}
	v := class.Own(w)
	for i := range v.Classes {
		if len(v.Classes[i].Methods) == 0 {
			v.Classes[i].Methods = nil
		}
	}
	v.Heap = nil
	for _, args := range [][]api.Value{nil, {}, make([]api.Value, 0, 4)} {
		for _, u := range []api.World{w, v} {
			check(t, "nothing", u, api.Call{Name: "m", Args: args}, 1, came(isNil, 1))
			check(t, "nothing", u, api.Call{Self: num(1), Name: "+", Args: args}, 1, failed(api.ErrFit, 0))
		}
	}
}

func TestE2Pushes(t *testing.T) {
	for _, x := range []struct {
		name string
		x    api.Instr
		want api.Value
	}{
		{"self", self, ref(pair)},
		{"the first argument", arg(0), num(30)},
		{"the last argument", arg(3), isTrue},
		{"a temporary", temp(1), isNil},
		{"the first slot", slot(0), num(20)},
		{"the last slot", slot(1), ref(triple)},
		{"a number", push(5), num(5)},
		{"the least number", push(-api.MaxNumber), num(-api.MaxNumber)},
		{"the greatest number", push(api.MaxNumber), num(api.MaxNumber)},
		{"nil", null, isNil},
		{"true", yes, isTrue},
		{"false", no, isFalse},
		{"a new object", fresh(4), ref(4)},
	} {
		w := one(t, 4, 2, x.x, back)
		check(t, x.name, w, call(ref(pair), "m", num(30), isNil, ref(2), isTrue), 1, came(x.want, 1))
	}
}

func TestE2Stack(t *testing.T) {
	for _, x := range []struct {
		name  string
		code  []api.Instr
		want  api.Value
		sends int
	}{
		{"what is on top goes", []api.Instr{push(1), push(2), pop, back}, num(1), 1},
		{"it is there twice", []api.Instr{push(7), dup, send("*", 1), back}, num(49), 2},
		{"what was below stays", []api.Instr{push(10), push(3), dup, pop, send("-", 1), back}, num(7), 2},
		{"a temporary is set, and that goes", []api.Instr{push(1), push(2), set(1), temp(1), send("-", 1), back}, num(-1), 2},
		{"temporaries are not each other", []api.Instr{push(1), set(0), push(2), set(1), temp(0), back}, num(1), 1},
		{"a slot is set, and that goes", []api.Instr{push(1), push(2), put(1), slot(1), send("-", 1), back}, num(-1), 2},
		{"another slot is as it was", []api.Instr{push(2), put(1), slot(0), back}, num(20), 1},
		{"as much as may be", append(slices.Repeat([]api.Instr{push(1)}, api.MaxStack), append(slices.Repeat([]api.Instr{send("+", 1)}, api.MaxStack-1), back)...), num(12), 12},
	} {
		w := one(t, 0, 2, x.code...)
		check(t, x.name, w, call(ref(pair), "m"), 400, came(x.want, x.sends))
	}
}

func TestE2SlotsOfTheReceiverOfTheCall(t *testing.T) {
	w := world(t,
		meth{4, 1, 0, "swap", []api.Instr{slot(0), arg(0), slot(1), send("put", 1), pop, back}},
		meth{4, 1, 0, "put", []api.Instr{arg(0), put(0), self, back}},
		meth{5, 0, 0, "last", []api.Instr{push(8), put(2), slot(2), back}})
	x, r := ran(t, w, call(ref(pair), "swap", ref(triple)), 9)
	if r != came(num(20), 2) || x.Heap[pair].Slots[0] != num(20) || x.Heap[triple].Slots[0] != ref(triple) {
		t.Errorf("%v comes, and %v", r, x.Heap)
	}
	x, r = ran(t, w, call(ref(triple), "last"), 9)
	if r != came(num(8), 1) || !slices.Equal(x.Heap[triple].Slots, []api.Value{num(1), isNil, num(8)}) {
		t.Errorf("%v comes, and %v", r, x.Heap)
	}
	x, _ = ran(t, w, call(ref(triple), "put", ref(other)), 9)
	if !slices.Equal(x.Heap[triple].Slots, []api.Value{ref(other), isNil, isTrue}) || x.Heap[pair].Slots[0] != num(20) {
		t.Errorf("slots of the class above: %v", x.Heap)
	}
}

func TestE2New(t *testing.T) {
	for c, slots := range map[int]int{0: 0, 4: 2, 5: 3, 6: 0} {
		w := one(t, 0, 0, fresh(c), back)
		x, r := ran(t, w, call(ref(pair), "m"), 9)
		want := append(slices.Clone(w.Heap), api.Object{Class: c, Slots: make([]api.Value, slots)})
		if r != came(ref(4), 1) || !same(api.World{Heap: x.Heap}, api.World{Heap: want}) {
			t.Errorf("of class %d: %v comes, and %v", c, r, x.Heap)
		}
	}
	w := one(t, 0, 0, fresh(6), fresh(5), put(0), fresh(4), put(1), back)
	x, r := ran(t, w, call(ref(pair), "m"), 9)
	if r != came(ref(4), 1) || len(x.Heap) != 7 || x.Heap[5].Class != 5 || x.Heap[6].Class != 4 || !slices.Equal(x.Heap[pair].Slots, []api.Value{ref(5), ref(6)}) {
		t.Errorf("one by one: %v comes, and %v", r, x.Heap)
	}
	for len(w.Heap) < api.MaxHeap-3 {
		w.Heap = append(slices.Clip(w.Heap), api.Object{Class: 6})
	}
	check(t, "the last room", w, call(ref(pair), "m"), 9, came(ref(57), 1))
	w.Heap = append(slices.Clip(w.Heap), api.Object{Class: 6})
	check(t, "no room for the third one", w, call(ref(pair), "m"), 9, failed(api.ErrFull, 1))
}

func TestE2Send(t *testing.T) {
	w := world(t,
		meth{4, 4, 0, "four", []api.Instr{arg(0), arg(1), send("-", 1), arg(2), send("*", 1), arg(3), send("-", 1), back}},
		meth{4, 0, 0, "m", []api.Instr{push(99), self, push(7), push(3), push(5), push(2), send("four", 4), send("-", 1), back}},
		meth{4, 0, 0, "none", []api.Instr{self, push(1), send("four", 1), back}},
		meth{4, 1, 0, "get", []api.Instr{arg(0), send("who", 0), back}},
		meth{4, 0, 0, "who", []api.Instr{push(4), back}},
		meth{5, 0, 0, "who", []api.Instr{push(5), back}},
		meth{1, 0, 0, "who", []api.Instr{push(1), back}},
		meth{4, 0, 0, "int", []api.Instr{push(1), null, send("+", 1), back}})
	for _, x := range []struct {
		name string
		c    api.Call
		fuel int
		want api.Ran
	}{
		{"four arguments, in their order", call(ref(pair), "m"), 9, came(num(99-18), 6)},
		{"it does not fit", call(ref(pair), "none"), 9, failed(api.ErrFit, 1)},
		{"it does not fit, and no fuel", call(ref(pair), "none"), 1, failed(api.ErrFit, 1)},
		{"its own class's", call(ref(pair), "get", ref(pair)), 9, came(num(4), 2)},
		{"the nearest one", call(ref(pair), "get", ref(triple)), 9, came(num(5), 2)},
		{"of nil", call(ref(pair), "get", isNil), 9, came(num(1), 2)},
		{"nobody", call(ref(pair), "get", ref(other)), 9, failed(api.ErrSend, 1)},
		{"nobody, and no fuel", call(ref(pair), "get", ref(other)), 1, failed(api.ErrSend, 1)},
		{"no fuel", call(ref(pair), "get", ref(pair)), 1, failed(api.ErrFuel, 1)},
		{"a primitive fails", call(ref(pair), "int"), 9, failed(api.ErrInt, 2)},
		{"no fuel, and it would fail", call(ref(pair), "int"), 1, failed(api.ErrFuel, 1)},
	} {
		check(t, x.name, w, x.c, x.fuel, x.want)
	}
}

func TestE2Jumps(t *testing.T) {
	w := one(t, 1, 0, push(1), arg(0), elseTo(5), pop, push(2), back)
	for _, x := range []struct {
		name string
		v    api.Value
		want api.Ran
	}{
		{"true goes on", isTrue, came(num(2), 1)},
		{"false goes there", isFalse, came(num(1), 1)},
		{"nil is neither", isNil, failed(api.ErrBool, 1)},
		{"0 is neither", num(0), failed(api.ErrBool, 1)},
		{"1 is neither", num(1), failed(api.ErrBool, 1)},
		{"an object is neither", ref(1), failed(api.ErrBool, 1)},
	} {
		check(t, x.name, w, call(ref(pair), "m", x.v), 1, x.want)
	}
	w = one(t, 0, 0, push(1), jump(4), pop, push(2), back)
	check(t, "what is between is left out", w, call(ref(pair), "m"), 1, came(num(1), 1))
	w = one(t, 0, 0, push(1), back, pop, jump(2))
	check(t, "what is behind OpBack is left out", w, call(ref(pair), "m"), 1, came(num(1), 1))
}

// turning has n jumps back, from each instruction to the one ahead of it.
func turning(n int) []api.Instr {
	code := []api.Instr{jump(n + 2), self, back, jump(1)}
	for len(code) < n+3 {
		code = append(code, jump(len(code)-1))
	}
	return code
}

func TestE2Turns(t *testing.T) {
	six := slices.Repeat([]api.Instr{self, send("fifty", 0), pop}, 6)
	end := []api.Instr{self, back}
	for _, x := range []struct {
		name string
		code []api.Instr
		want api.Ran
	}{
		{"MaxTurns, of all calls", slices.Concat(six, end), came(ref(pair), 7)},
		{"one more", slices.Concat(six, []api.Instr{self, send("one", 0), pop}, end), failed(api.ErrStop, 8)},
		{"one more, by OpElse", slices.Concat(six, []api.Instr{self, send("else", 0), pop}, end), failed(api.ErrStop, 8)},
		{"none goes back any more", slices.Concat(six, []api.Instr{yes, elseTo(0), jump(21), no, elseTo(23)}, end), came(ref(pair), 7)},
		{"one more, to itself", slices.Concat(six, []api.Instr{jump(18)}), failed(api.ErrStop, 7)},
		{"one more, of the first call", slices.Concat([]api.Instr{jump(3)}, end, six, []api.Instr{jump(1)}), failed(api.ErrStop, 7)},
	} {
		w := world(t,
			meth{4, 0, 0, "fifty", turning(50)},
			meth{4, 0, 0, "one", turning(1)},
			meth{4, 0, 0, "else", []api.Instr{jump(3), self, back, no, elseTo(1), jump(1)}},
			meth{4, 0, 0, "m", x.code})
		check(t, x.name, w, call(ref(pair), "m"), api.MaxFuel, x.want)
	}
}

func TestE2TurnsForEver(t *testing.T) {
	for _, x := range []struct {
		name string
		code []api.Instr
		want api.Errno
	}{
		{"OpJump, to itself", []api.Instr{jump(0)}, api.ErrStop},
		{"OpJump, to others", []api.Instr{null, pop, jump(0)}, api.ErrStop},
		{"OpElse", []api.Instr{no, elseTo(0), self, back}, api.ErrStop},
		{"OpElse, of neither", []api.Instr{null, elseTo(0), self, back}, api.ErrBool},
	} {
		check(t, x.name, one(t, 0, 0, x.code...), call(ref(pair), "m"), 1, failed(x.want, 1))
	}
}
