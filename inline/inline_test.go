package inline

import (
	"math"
	"reflect"
	"slices"
	"testing"

	"quickchange/api"
	"quickchange/class"
	"quickchange/wire"
)

func in(op, a int) api.Instr { return api.Instr{Op: op, A: a} }

func send(name string, args int) api.Instr { return api.Instr{Op: api.OpSend, A: args, Name: name} }

// sent is a send of fast code, that is instruction at of the plain code.
func sent(name string, args, at int) api.Instr {
	return api.Instr{Op: api.OpSend, A: args, C: at, Name: name}
}

var (
	self  = in(api.OpSelf, 0)
	null  = in(api.OpNil, 0)
	yes   = in(api.OpTrue, 0)
	no    = in(api.OpFalse, 0)
	pop   = in(api.OpPop, 0)
	dup   = in(api.OpDup, 0)
	back  = in(api.OpBack, 0)
	count = in(api.OpCount, 0)
)

func arg(n int) api.Instr    { return in(api.OpArg, n) }
func temp(n int) api.Instr   { return in(api.OpTemp, n) }
func set(n int) api.Instr    { return in(api.OpSet, n) }
func slot(n int) api.Instr   { return in(api.OpSlot, n) }
func put(n int) api.Instr    { return in(api.OpPut, n) }
func push(n int) api.Instr   { return in(api.OpInt, n) }
func fresh(c int) api.Instr  { return in(api.OpNew, c) }
func jump(to int) api.Instr  { return in(api.OpJump, to) }
func elseTo(n int) api.Instr { return in(api.OpElse, n) }

func guard(class, args, at int) api.Instr {
	return api.Instr{Op: api.OpGuard, A: class, B: args, C: at}
}

func of(temp, slot int) api.Instr { return api.Instr{Op: api.OpOf, A: temp, B: slot} }

func to(temp, slot int) api.Instr { return api.Instr{Op: api.OpTo, A: temp, B: slot} }

// meth is a method of a class.
type meth struct {
	class, args, temps int
	name               string
	code               []api.Instr
}

// world has class 4, of two slots, class 5 in it, of one more, and class 6, without slots; an object of each, and one of
// `Object`; and the methods. It is right.
func world(t *testing.T, l ...meth) api.World {
	t.Helper()
	w := class.New()
	for _, x := range []api.Class{{Name: "Pair", Slots: 2}, {Name: "Triple", Super: 4, Slots: 1}, {Name: "Other"}} {
		w, _, _ = class.Make(w, x.Name, x.Super, x.Slots)
	}
	for _, x := range l {
		var err api.Errno
		if w, err = class.Install(w, x.class, api.Method{Name: x.name, Args: x.args, Temps: x.temps, Code: x.code}); err != api.OK {
			t.Fatalf("Install %s: error %d", x.name, err)
		}
	}
	w.Heap = []api.Object{{Class: 4, Slots: []api.Value{num(20), ref(1)}}, {Class: 5, Slots: []api.Value{num(1), isNil, isTrue}}, {Class: 6}, {Class: 0}}
	if err := wire.Right(w); err != api.OK {
		t.Fatalf("the world is not right: error %d", err)
	}
	return w
}

// leaves are methods that may stand in, and some that may not.
func leaves() []meth {
	return []meth{
		{0, 0, 0, "me", []api.Instr{self, back}},
		{3, 0, 0, "zero", []api.Instr{push(0), back}},
		{4, 0, 0, "get", []api.Instr{slot(0), back}},
		{5, 0, 1, "get", []api.Instr{push(7), set(0), temp(0), back}},
		{6, 0, 0, "get", []api.Instr{self, send("me", 0), back}},
		{4, 1, 0, "set", []api.Instr{arg(0), put(0), self, back}},
		{4, 0, 0, "make", []api.Instr{fresh(4), back}},
		{4, 2, 2, "pick", []api.Instr{arg(1), elseTo(6), arg(0), set(1), temp(1), jump(9), slot(1), set(0), temp(0), back}},
	}
}

func numberOf(t *testing.T, w api.World, c int, name string) int {
	t.Helper()
	n := slices.IndexFunc(w.Classes[c].Methods, func(m api.Method) bool { return m.Name == name })
	if n < 0 {
		t.Fatalf("class %d has no method %s", c, name)
	}
	return n
}

// with is a world of the leaves, and of a method `m` of class 4; and that method's number.
func with(t *testing.T, args, temps int, code ...api.Instr) (api.World, int) {
	t.Helper()
	w := world(t, append(leaves(), meth{4, args, temps, "m", code})...)
	return w, numberOf(t, w, 4, "m")
}

// all is a class for each of n instructions.
func all(n, c int) []int { return slices.Repeat([]int{c}, n) }

// none has it that Method tells nothing.
func none(t *testing.T, name string, w api.World, c, method int, sites []int) {
	t.Helper()
	if f, ok := Method(w, c, method, sites); ok || !reflect.DeepEqual(f, api.Fast{}) {
		t.Errorf("%s: %v, %v comes", name, f, ok)
	}
}

// some has it that Method tells just that code of `m`.
func some(t *testing.T, name string, w api.World, method int, sites []int, temps int, code ...api.Instr) {
	t.Helper()
	f, ok := Method(w, 4, method, sites)
	if want := (api.Fast{Class: 4, Name: "m", Epoch: w.Epoch, Temps: temps, Code: code}); !ok || !reflect.DeepEqual(f, want) {
		t.Errorf("%s: %v, %v comes, not %v", name, f, ok, want)
	}
}

func TestJ1NoSuchMethod(t *testing.T) {
	w, m := with(t, 0, 0, self, send("get", 0), back)
	some(t, "it is there", w, m, all(3, 4), 1, self, guard(4, 0, 1), count, set(0), of(0, 0), jump(6), back)
	for _, c := range []int{-1, 7, 99, math.MinInt, math.MaxInt} {
		none(t, "no such class", w, c, m, all(3, 4))
	}
	for _, n := range []int{-1, len(w.Classes[4].Methods), 99, math.MinInt, math.MaxInt} {
		none(t, "no such method", w, 4, n, all(3, 4))
	}
	none(t, "a class without methods", w, 1, 0, all(3, 4))
	none(t, "a primitive", w, 3, 0, all(3, 4))
	none(t, "a world without classes", api.World{}, 0, 0, all(3, 4))
}

func TestJ1WhatMayStandIn(t *testing.T) {
	for _, x := range []struct {
		name  string
		what  string
		args  int
		class int
		want  bool
	}{
		{"a leaf", "get", 0, 4, true},
		{"a leaf of its own", "get", 0, 5, true},
		{"one that sends", "get", 0, 6, false},
		{"one that makes", "make", 0, 4, false},
		{"one that makes, of the class above", "make", 0, 5, false},
		{"a primitive", "+", 1, 3, false},
		{"a leaf of a number", "zero", 0, 3, true},
		{"a leaf of the class above", "me", 0, 3, true},
		{"a leaf of class 0", "me", 0, 0, true},
		{"nobody understands it", "nobody", 0, 4, false},
		{"that class does not", "set", 1, 6, false},
		{"the class below does", "set", 1, 0, false},
		{"of one argument", "set", 1, 4, true},
		{"of one argument, the class above's", "set", 1, 5, true},
		{"an argument too few", "set", 0, 4, false},
		{"an argument too much", "set", 2, 4, false},
		{"of two arguments", "pick", 2, 4, true},
		{"arguments, where there are none", "get", 1, 4, false},
		{"no class", "get", 0, -1, false},
		{"far below 0", "get", 0, math.MinInt, false},
		{"no such class", "get", 0, 7, false},
		{"far above all", "get", 0, math.MaxInt, false},
	} {
		code := append(slices.Repeat([]api.Instr{self}, 1+x.args), send(x.what, x.args), back)
		w, m := with(t, 0, 0, code...)
		sites := all(len(code), -1)
		sites[1+x.args] = x.class
		f, ok := Method(w, 4, m, sites)
		if ok != x.want || ok && f.Code[1+x.args] != guard(x.class, x.args, 1+x.args) {
			t.Errorf("%s: %v, %v", x.name, f, ok)
		}
		if !ok && !reflect.DeepEqual(f, api.Fast{}) {
			t.Errorf("%s: %v beside false", x.name, f)
		}
	}
}

func TestJ1Sites(t *testing.T) {
	w, m := with(t, 1, 0, self, send("get", 0), arg(0), send("get", 0), send("+", 1), back)
	first := []api.Instr{self, guard(4, 0, 1), count, set(0), of(0, 0), jump(6), arg(0), sent("get", 0, 3), sent("+", 1, 4), back}
	second := []api.Instr{self, sent("get", 0, 1), arg(0), guard(5, 0, 3), count, set(0), null, set(1), push(7), set(1), temp(1), jump(12), sent("+", 1, 4), back}
	both := []api.Instr{self, guard(4, 0, 1), count, set(0), of(0, 0), jump(6), arg(0), guard(4, 0, 3), count, set(1), of(1, 0), jump(12), sent("+", 1, 4), back}
	for _, x := range []struct {
		name  string
		sites []int
		temps int
		want  []api.Instr
	}{
		{"the first one", []int{-1, 4, -1, -1, -1, -1}, 1, first},
		{"the second one", []int{-1, -1, -1, 5, -1, -1}, 2, second},
		{"both", all(6, 4), 2, both},
		{"a list that is too short", []int{-1, 4}, 1, first},
		{"a list that is too long", append(all(6, 4), all(99, 4)...), 2, both},
		{"spare room is not looked at", all(6, 4)[:2], 1, first},
		{"classes of other instructions mean nothing", []int{4, 4, 4, -1, -1, 4}, 1, first},
		{"numbers below 0", []int{-1, 4, -1, math.MinInt, -2, 0}, 1, first},
		{"who does not understand it", []int{0, 4, 0, 0, 0, 0}, 1, first},
		{"a primitive stays", all(6, 4)[:5], 2, both},
	} {
		some(t, x.name, w, m, x.sites, x.temps, x.want...)
	}
	for _, sites := range [][]int{nil, {}, {4}, all(6, -1), all(6, 3), {4, -1, 4, -1, 4, 4}, all(6, 99)} {
		none(t, "no piece", w, 4, m, sites)
	}
	w, m = with(t, 0, 0, self, back)
	none(t, "no send", w, 4, m, all(2, 4))
}

func TestJ1OfItsOwnClass(t *testing.T) {
	w := world(t, append(leaves(), meth{5, 0, 2, "last", []api.Instr{self, send("get", 0), back}})...)
	w.Epoch = 77
	f, ok := Method(w, 5, numberOf(t, w, 5, "last"), all(3, 4))
	want := api.Fast{Class: 5, Name: "last", Epoch: 77, Temps: 3, Code: []api.Instr{self, guard(4, 0, 1), count, set(2), of(2, 0), jump(6), back}}
	if !ok || !reflect.DeepEqual(f, want) {
		t.Errorf("%v, %v comes, not %v", f, ok, want)
	}
}

func TestJ1JumpsThatStay(t *testing.T) {
	// 0 leads to a send; 2 back to 0's target; others over both pieces, and back over them.
	w, m := with(t, 1, 0,
		self, jump(2), send("get", 0), pop, arg(0), elseTo(9), self, send("me", 0), jump(2), self, send("get", 0), back)
	some(t, "all pieces", w, m, []int{-1, -1, 4, -1, -1, -1, -1, 4, -1, -1, 4, -1}, 3,
		self, jump(2),
		guard(4, 0, 2), count, set(0), of(0, 0), jump(7),
		pop, arg(0), elseTo(17), self,
		guard(4, 0, 7), count, set(1), temp(1), jump(16),
		jump(2), self,
		guard(4, 0, 10), count, set(2), of(2, 0), jump(23),
		back)
	some(t, "the last piece", w, m, []int{-1, -1, -1, -1, -1, -1, -1, -1, -1, -1, 4, -1}, 1,
		self, jump(2), sent("get", 0, 2), pop, arg(0), elseTo(9), self, sent("me", 0, 7), jump(2), self,
		guard(4, 0, 10), count, set(0), of(0, 0), jump(15),
		back)
	some(t, "the piece between", w, m, []int{-1, -1, -1, -1, -1, -1, -1, 5, -1, -1, -1, -1}, 1,
		self, jump(2), sent("get", 0, 2), pop, arg(0), elseTo(13), self,
		guard(5, 0, 7), count, set(0), temp(0), jump(12),
		jump(2), self, sent("get", 0, 10), back)
	w, m = with(t, 0, 0, self, send("get", 0), pop, no, elseTo(0), jump(0))
	some(t, "to the first one", w, m, all(6, 4), 1, self, guard(4, 0, 1), count, set(0), of(0, 0), jump(6), pop, no, elseTo(0), jump(0))
	w, m = with(t, 0, 0, self, back, self, send("get", 0))
	some(t, "nothing is behind a piece to which nothing leads", w, m, all(4, 4), 1, self, back, self, guard(4, 0, 3), count, set(0), of(0, 0), jump(8))
}

// roomy: a method of temps temporaries, that sends `two`, of one temporary, so often, then `me`.
func roomy(t *testing.T, temps, twos int) (api.World, int, int) {
	t.Helper()
	code := slices.Concat(slices.Repeat([]api.Instr{self, send("two", 0), pop}, twos), []api.Instr{self, send("me", 0), back})
	w := world(t, append(leaves(), meth{4, 0, 1, "two", []api.Instr{self, back}}, meth{4, 0, temps, "m", code})...)
	return w, numberOf(t, w, 4, "m"), len(code)
}

func guards(f api.Fast) []int {
	var out []int
	for _, x := range f.Code {
		if x.Op == api.OpGuard {
			out = append(out, x.C)
		}
	}
	return out
}

func TestJ1Rooms(t *testing.T) {
	for _, x := range []struct {
		temps, twos, wantTemps, pieces int
		last                           bool
	}{
		{6, 1, 9, 2, true},
		{5, 17, 40, 18, true},
		{6, 17, 40, 17, false},
		{5, 18, 40, 18, true},
		{6, 18, 40, 17, false},
		{5, 19, 40, 18, true},
	} {
		w, m, n := roomy(t, x.temps, x.twos)
		f, ok := Method(w, 4, m, all(n, 4))
		at := guards(f)
		if !ok || f.Temps != x.wantTemps || len(at) != x.pieces || slices.Contains(at, n-2) != x.last {
			t.Errorf("%d temporaries, %d sends: %d of them, guards %v", x.temps, x.twos, f.Temps, at)
		}
	}
	four := meth{4, 4, 6, "four", []api.Instr{self, back}}
	code := slices.Repeat([]api.Instr{self, self, self, self, self, send("four", 4), pop}, 4)
	for temps, want := range map[int][]int{0: {5, 12, 19}, 6: {5, 12, 19}} {
		w := world(t, four, meth{4, 0, temps, "m", append(code, self, back)})
		f, ok := Method(w, 4, numberOf(t, w, 4, "m"), all(60, 4))
		if !ok || f.Temps != temps+33 || !slices.Equal(guards(f), want) {
			t.Errorf("%d temporaries: %d of them, guards %v", temps, f.Temps, guards(f))
		}
	}
}

// filled has jumps to what is next behind code, until there are n instructions.
func filled(code []api.Instr, n int) []api.Instr {
	for len(code) < n {
		code = append(code, jump(len(code)+1))
	}
	return code
}

// wide is a method of n instructions, that sends `long` three times, and `me` last.
func wide(args, n int) []api.Instr {
	ahead := append(slices.Repeat([]api.Instr{self}, 1+args), send("long", args), pop)
	return append(filled(slices.Repeat(ahead, 3), n-3), self, send("me", 0), back)
}

func TestJ1Instructions(t *testing.T) {
	for _, x := range []struct {
		name                 string
		args, temps, size, n int
		third                bool
	}{
		{"MaxFast", 0, 6, 60, 17, true},
		{"one more", 0, 6, 60, 18, false},
		{"a shorter leaf", 0, 6, 58, 23, true},
		{"an instruction more in it", 0, 6, 59, 23, false},
		{"without temporaries", 0, 0, 60, 53, true},
		{"without temporaries, one more", 0, 0, 60, 54, false},
		{"with arguments", 4, 0, 57, 50, true},
		{"with arguments, one more", 4, 0, 57, 51, false},
		{"temporaries count twice", 0, 3, 60, 35, true},
		{"temporaries count twice, one more", 0, 3, 60, 36, false},
	} {
		leaf := meth{4, x.args, x.temps, "long", append(filled(nil, x.size-2), self, back)}
		w := world(t, append(leaves(), leaf, meth{4, 0, 0, "m", wide(x.args, x.n)})...)
		f, ok := Method(w, 4, numberOf(t, w, 4, "m"), all(x.n, 4))
		one, at := 3+x.args+2*x.temps+x.size, 1+x.args
		want, length := []int{at, at + 2 + at, at + 4 + 2*at}, x.n-3+3*one
		if !x.third {
			// What stays leaves room for a lesser piece, of five, behind it.
			want[2], length = x.n-2, x.n-3+2*one+5
		}
		if !ok || !slices.Equal(guards(f), want) || len(f.Code) != length || length > api.MaxFast {
			t.Errorf("%s: %d instructions, not %d, guards %v, not %v", x.name, len(f.Code), length, guards(f), want)
		}
	}
}

func TestJ2Pieces(t *testing.T) {
	w, m := with(t, 1, 1, null, self, arg(0), temp(0), send("pick", 2), set(0), back)
	some(t, "arguments, temporaries, jumps", w, m, all(7, 4), 6,
		null, self, arg(0), temp(0),
		guard(4, 2, 4), count, set(3), set(2), set(1), null, set(4), null, set(5),
		temp(3), elseTo(19), temp(2), set(5), temp(5), jump(22), of(1, 1), set(4), temp(4), jump(23),
		set(0), back)
	w, m = with(t, 0, 0, self, push(3), send("set", 1), back)
	some(t, "a setter, of the class below", w, m, all(4, 5), 2,
		self, push(3), guard(5, 1, 2), count, set(1), set(0), temp(1), to(0, 0), temp(0), jump(10), back)
	w, m = with(t, 0, 3, self, send("get", 0), send("me", 0), back)
	some(t, "one behind the other", w, m, []int{-1, 4, 3, -1}, 5,
		self, guard(4, 0, 1), count, set(3), of(3, 0), jump(6), guard(3, 0, 2), count, set(4), temp(4), jump(11), back)
}

func TestJ2OthersStay(t *testing.T) {
	leaf := []api.Instr{push(-5), null, pop, no, pop, yes, dup, pop, elseTo(10), jump(10), back, jump(11)}
	w := world(t, meth{4, 0, 0, "leaf", leaf}, meth{4, 0, 0, "m", []api.Instr{self, send("leaf", 0), back}})
	some(t, "and jumps to others", w, numberOf(t, w, 4, "m"), all(3, 4), 1,
		self, guard(4, 0, 1), count, set(0),
		push(-5), null, pop, no, pop, yes, dup, pop, elseTo(14), jump(14), jump(16), jump(15), back)
	w = world(t, meth{4, 0, 0, "leaf", []api.Instr{no, elseTo(0), jump(0)}}, meth{4, 0, 0, "m", []api.Instr{self, send("leaf", 0), back}})
	some(t, "to the first one", w, numberOf(t, w, 4, "m"), all(3, 4), 1,
		self, guard(4, 0, 1), count, set(0), no, elseTo(4), jump(4), back)
}

func TestJ2EachSlotAndRoom(t *testing.T) {
	leaf := []api.Instr{slot(2), put(1), arg(3), set(5), arg(0), set(0), temp(0), back}
	w := world(t, meth{5, 4, 6, "leaf", leaf},
		meth{4, 0, 6, "m", []api.Instr{self, null, null, null, null, send("leaf", 4), back}})
	want := []api.Instr{self, null, null, null, null, guard(5, 4, 5), count, set(10), set(9), set(8), set(7), set(6)}
	for n := range 6 {
		want = append(want, null, set(11+n))
	}
	want = append(want, of(6, 2), to(6, 1), temp(10), set(16), temp(7), set(11), temp(11), jump(32), back)
	some(t, "all there are", w, numberOf(t, w, 4, "m"), all(7, 5), 17, want...)
}

func TestJ2Example(t *testing.T) {
	w, m := with(t, 0, 0, self, send("get", 0), back)
	if f, ok := Method(w, 4, m, all(3, 4)); !ok || len(f.Code) != 7 {
		t.Errorf("%d instructions, %v", len(f.Code), ok)
	}
}

// What is handed in is only read, nothing of it is kept, and what is answered is the caller's.
func TestJ1Memory(t *testing.T) {
	w, m := with(t, 1, 1, null, self, arg(0), temp(0), send("pick", 2), set(0), jump(7), back)
	sites := all(12, 4)
	before := class.Own(w)
	first, _ := Method(w, 4, m, sites[:8])
	second, _ := Method(w, 4, m, sites[:8])
	want := slices.Clone(second.Code)
	for i := range first.Code[:cap(first.Code)] {
		first.Code[:cap(first.Code)][i] = in(77, 77)
	}
	if !slices.Equal(second.Code, want) || !reflect.DeepEqual(class.Own(w), before) || !slices.Equal(sites, all(12, 4)) {
		t.Error("answers share memory, or what was handed in is changed")
	}
	for _, x := range w.Classes[4].Methods {
		clear(x.Code)
	}
	clear(w.Classes[4].Methods)
	clear(w.Classes)
	clear(sites)
	if second.Name != "m" || !slices.Equal(second.Code, want) {
		t.Error("something of what was handed in is kept")
	}
}

// Of worlds that are not right: no call panics, and all end.
func TestJ1WrongWorlds(t *testing.T) {
	numbers := []int{-1, 0, 3, 41, math.MinInt, math.MaxInt}
	for _, args := range numbers {
		for _, temps := range numbers {
			leaf := api.Method{Name: "leaf", Args: args, Temps: temps, Code: []api.Instr{{Op: 99}, arg(math.MaxInt), temp(-1), jump(-7), elseTo(math.MaxInt)}}
			odd := api.Method{Name: "odd", Args: -1, Temps: temps, Code: []api.Instr{send("leaf", args), jump(-1), elseTo(3), jump(math.MaxInt), {Op: -4}, send("leaf", args)}}
			for _, w := range []api.World{
				{Classes: []api.Class{{Super: 0, Methods: []api.Method{leaf, odd}}}},
				{Classes: []api.Class{{Super: 1}, {Super: 0, Methods: []api.Method{odd, leaf, odd}}, {Super: math.MaxInt}}},
			} {
				for c := -1; c < 4; c++ {
					for method := -1; method < 4; method++ {
						for _, n := range numbers {
							Method(w, c, method, all(5, n))
						}
					}
				}
			}
		}
	}
}
