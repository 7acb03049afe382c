package fast

import (
	"math"
	"reflect"
	"slices"
	"testing"

	"quickchange/api"
	"quickchange/cached"
	"quickchange/choose"
	"quickchange/class"
	"quickchange/inline"
	"quickchange/run"
	"quickchange/wire"
)

func in(op, a int) api.Instr { return api.Instr{Op: op, A: a} }

func send(name string, args int) api.Instr { return api.Instr{Op: api.OpSend, A: args, Name: name} }

// sent is a send of fast code, that is instruction at of the plain code.
func sent(name string, args, at int) api.Instr {
	return api.Instr{Op: api.OpSend, A: args, C: at, Name: name}
}

func guard(class, args, at int) api.Instr {
	return api.Instr{Op: api.OpGuard, A: class, B: args, C: at}
}

func of(temp, slot int) api.Instr { return api.Instr{Op: api.OpOf, A: temp, B: slot} }

var (
	self  = in(api.OpSelf, 0)
	null  = in(api.OpNil, 0)
	yes   = in(api.OpTrue, 0)
	no    = in(api.OpFalse, 0)
	pop   = in(api.OpPop, 0)
	dup   = in(api.OpDup, 0)
	back  = in(api.OpBack, 0)
	count = in(api.OpCount, 0)
)

func arg(n int) api.Instr    { return in(api.OpArg, n) }
func temp(n int) api.Instr   { return in(api.OpTemp, n) }
func set(n int) api.Instr    { return in(api.OpSet, n) }
func slot(n int) api.Instr   { return in(api.OpSlot, n) }
func put(n int) api.Instr    { return in(api.OpPut, n) }
func push(n int) api.Instr   { return in(api.OpInt, n) }
func fresh(c int) api.Instr  { return in(api.OpNew, c) }
func jump(to int) api.Instr  { return in(api.OpJump, to) }
func elseTo(n int) api.Instr { return in(api.OpElse, n) }

func num(n int) api.Value { return api.Value{Kind: api.ValInt, N: n} }
func ref(n int) api.Value { return api.Value{Kind: api.ValRef, N: n} }

var (
	isNil  = api.Value{}
	isTrue = api.Value{Kind: api.ValTrue}
)

// Numbers of the objects of world.
const (
	pair = iota
	triple
	other
	object
)

func call(self api.Value, name string, args ...api.Value) api.Call {
	return api.Call{Self: self, Name: name, Args: args}
}

func came(v api.Value, sends int) api.Ran { return api.Ran{Value: v, Sends: sends} }

func failed(err api.Errno, sends int) api.Ran { return api.Ran{Err: err, Sends: sends} }

// meth is a method of a class.
type meth struct {
	class, args, temps int
	name               string
	code               []api.Instr
}

func install(t *testing.T, w api.World, l ...meth) api.World {
	t.Helper()
	for _, x := range l {
		var err api.Errno
		if w, err = class.Install(w, x.class, api.Method{Name: x.name, Args: x.args, Temps: x.temps, Code: x.code}); err != api.OK {
			t.Fatalf("Install %s: error %d", x.name, err)
		}
	}
	if err := wire.Right(w); err != api.OK {
		t.Fatalf("the world is not right: error %d", err)
	}
	return w
}

// bare has class 4, of two slots, class 5 in it, of one more, and class 6, without slots; an object of each, and one of
// `Object`.
func bare() api.World {
	w := class.New()
	for _, x := range []api.Class{{Name: "Pair", Slots: 2}, {Name: "Triple", Super: 4, Slots: 1}, {Name: "Other"}} {
		w, _, _ = class.Make(w, x.Name, x.Super, x.Slots)
	}
	w.Heap = []api.Object{{Class: 4, Slots: []api.Value{num(20), ref(1)}}, {Class: 5, Slots: []api.Value{num(1), isNil, isTrue}}, {Class: 6}, {Class: 0}}
	return w
}

// world is a bare one with leaves, and with methods that send them.
func world(t *testing.T) api.World {
	t.Helper()
	return install(t, bare(),
		meth{6, 1, 0, "ask", []api.Instr{arg(0), send("get", 0), back}},
		meth{5, 0, 0, "once", []api.Instr{self, send("get", 0), back}},
		meth{4, 1, 0, "sum", []api.Instr{self, send("get", 0), arg(0), send("get", 0), send("+", 1), back}},
		meth{4, 1, 0, "keep", []api.Instr{self, arg(0), send("set", 1), send("get", 0), back}},
		meth{3, 0, 0, "over", []api.Instr{self, send("me", 0), push(1), send("+", 1), back}},
		meth{0, 0, 0, "mine", []api.Instr{self, send("me", 0), back}},
		meth{0, 0, 0, "me", []api.Instr{self, back}},
		meth{4, 0, 0, "get", []api.Instr{slot(0), back}},
		meth{5, 0, 1, "get", []api.Instr{push(7), set(0), temp(0), back}},
		meth{6, 0, 0, "get", []api.Instr{self, send("me", 0), pop, push(3), back}},
		meth{4, 1, 0, "set", []api.Instr{arg(0), put(0), self, back}},
		meth{4, 0, 0, "deep", []api.Instr{self, send("deep", 0), back}},
		meth{4, 0, 0, "for", []api.Instr{self, send("get", 0), pop, jump(0)}},
		meth{4, 0, 0, "made", []api.Instr{fresh(5), send("get", 0), back}})
}

// at counts receivers of one class, at a site.
func at(c int, name string, n, receivers, number int) api.Tally {
	return api.Tally{Site: api.Site{Class: c, Name: name, At: n}, Classes: []api.Line{{Class: receivers, Found: number}}}
}

// counted has enough receivers for every send that may be worth it.
func counted() []api.Tally {
	return []api.Tally{
		at(6, "ask", 1, 5, 2), at(5, "once", 1, 5, 2), at(4, "sum", 1, 4, 2), at(4, "sum", 3, 5, 9), at(4, "sum", 4, 3, 9),
		at(4, "keep", 2, 4, 2), at(4, "keep", 3, 4, 2), at(3, "over", 1, 3, 2), at(0, "mine", 1, 6, 2), at(6, "get", 1, 6, 2),
		at(4, "deep", 1, 4, 9), at(4, "for", 1, 4, 3), at(4, "made", 1, 5, 3),
	}
}

type key struct {
	class int
	name  string
}

func keys(l []api.Fast) []key {
	var out []key
	for _, f := range l {
		out = append(out, key{f.Class, f.Name})
	}
	return out
}

func TestK1AllInTurn(t *testing.T) {
	w := world(t)
	all := All(w, counted())
	// Class by class, and methods rise by names, in whatever order they were installed, or counted.
	want := []key{{0, "mine"}, {3, "over"}, {4, "for"}, {4, "keep"}, {4, "made"}, {4, "sum"}, {5, "once"}, {6, "ask"}, {6, "get"}}
	if !slices.Equal(keys(all), want) {
		t.Errorf("%v comes, not %v", keys(all), want)
	}
	back := counted()
	slices.Reverse(back)
	if !reflect.DeepEqual(All(w, back), all) {
		t.Error("it hangs on the order of the tallies")
	}
	rest := all
	for c := range w.Classes {
		for n := range w.Classes[c].Methods {
			f, ok := inline.Method(w, c, n, choose.Sites(w, counted(), c, n))
			if !ok {
				continue
			}
			if len(rest) == 0 || !reflect.DeepEqual(rest[0], f) {
				t.Fatalf("%v does not come in its turn", f)
			}
			rest = rest[1:]
		}
	}
	if len(rest) > 0 {
		t.Errorf("%v comes too", rest)
	}
}

func TestK1AllCode(t *testing.T) {
	w := world(t)
	w.Epoch = 77
	want := []api.Fast{
		{Class: 4, Name: "sum", Epoch: 77, Temps: 3, Code: []api.Instr{self,
			guard(4, 0, 1), count, set(0), of(0, 0), jump(6), arg(0),
			guard(5, 0, 3), count, set(1), null, set(2), push(7), set(2), temp(2), jump(16), sent("+", 1, 4), back}},
		{Class: 6, Name: "ask", Epoch: 77, Temps: 1, Code: []api.Instr{arg(0), guard(4, 0, 1), count, set(0), of(0, 0), jump(6), back}},
	}
	got := All(w, []api.Tally{at(6, "ask", 1, 4, 2), at(4, "sum", 3, 5, 2), at(4, "sum", 1, 4, 2)})
	if !reflect.DeepEqual(got, want) {
		t.Errorf("%v comes, not %v", got, want)
	}
}

func TestK1AllWorthIt(t *testing.T) {
	lines := func(l ...int) []api.Tally {
		var out []api.Line
		for i := 0; i < len(l); i += 2 {
			out = append(out, api.Line{Class: l[i], Found: l[i+1]})
		}
		return []api.Tally{{Site: api.Site{Class: 6, Name: "ask", At: 1}, Classes: out}}
	}
	for _, x := range []struct {
		name string
		t    []api.Tally
		want int
	}{
		{"nil", nil, 0},
		{"no tally", []api.Tally{}, 0},
		{"no line", lines(), 0},
		{"none came", lines(4, 0), 0},
		{"one receiver", lines(4, 1), 0},
		{"two receivers", lines(4, 2), 1},
		{"two tallies of one", append(lines(4, 1), lines(4, 1)...), 0},
		{"half of them", lines(4, 3, 5, 3), 0},
		{"more than half", lines(4, 4, 5, 3), 1},
		{"one that sends", lines(6, 9), 0},
		{"who does not understand it", lines(3, 9), 0},
		{"no such class", lines(7, 9), 0},
		{"below 0", lines(-1, 9), 0},
		{"another instruction", []api.Tally{at(6, "ask", 0, 4, 9), at(6, "ask", 2, 4, 9), at(6, "ask", -1, 4, 9)}, 0},
		{"another method", []api.Tally{at(6, "as", 1, 4, 9), at(6, "asks", 1, 4, 9), at(6, "", 1, 4, 9)}, 0},
		{"another class", []api.Tally{at(4, "ask", 1, 4, 9), at(0, "ask", 1, 4, 9), at(99, "ask", 1, 4, 9), at(-1, "ask", 1, 4, 9)}, 0},
		{"a primitive", []api.Tally{at(4, "sum", 4, 3, 9)}, 0},
	} {
		if l := All(world(t), x.t); len(l) != x.want {
			t.Errorf("%s: %v comes", x.name, l)
		}
	}
	if l := All(class.New(), counted()); len(l) != 0 {
		t.Errorf("of a new world %v comes", l)
	}
	if l := All(api.World{}, counted()); len(l) != 0 {
		t.Errorf("of no classes %v comes", l)
	}
}

// answers is fast code, of which a number comes: nothing that stands in does so, but it shows what was taken.
func answers(c int, name string, epoch, n int) api.Fast {
	return api.Fast{Class: c, Name: name, Epoch: epoch, Code: []api.Instr{push(n), back}}
}

func TestK1RunTakesTheFirst(t *testing.T) {
	w := world(t)
	w.Epoch = 5
	for _, x := range []struct {
		name string
		l    []api.Fast
		c    api.Call
		want api.Ran
	}{
		{"none", nil, call(ref(pair), "get"), came(num(20), 1)},
		{"an empty list", []api.Fast{}, call(ref(pair), "get"), came(num(20), 1)},
		{"there is one", []api.Fast{answers(4, "get", 5, 90)}, call(ref(pair), "get"), came(num(90), 1)},
		{"the first one", []api.Fast{answers(4, "get", 5, 90), answers(4, "get", 5, 91)}, call(ref(pair), "get"), came(num(90), 1)},
		{"the first one, behind others", []api.Fast{answers(5, "get", 5, 92), answers(4, "set", 5, 93), answers(4, "get", 4, 94), answers(4, "get", 5, 90), answers(4, "get", 5, 91)}, call(ref(pair), "get"), came(num(90), 1)},
		{"the last one", []api.Fast{answers(5, "get", 5, 92), answers(4, "get", 6, 91), answers(4, "get", 5, 90)}, call(ref(pair), "get"), came(num(90), 1)},
		{"of another class", []api.Fast{answers(5, "get", 5, 90), answers(0, "get", 5, 90), answers(-1, "get", 5, 90), answers(6, "get", 5, 90)}, call(ref(pair), "get"), came(num(20), 1)},
		{"of another name", []api.Fast{answers(4, "Get", 5, 90), answers(4, "ge", 5, 90), answers(4, "gets", 5, 90), answers(4, "", 5, 90)}, call(ref(pair), "get"), came(num(20), 1)},
		{"it is old", []api.Fast{answers(4, "get", 4, 90), answers(4, "get", 0, 90)}, call(ref(pair), "get"), came(num(20), 1)},
		{"it is yet to come", []api.Fast{answers(4, "get", 6, 90), answers(4, "get", math.MaxInt, 90)}, call(ref(pair), "get"), came(num(20), 1)},
		{"below 0", []api.Fast{answers(4, "get", -5, 90), answers(4, "get", math.MinInt, 90)}, call(ref(pair), "get"), came(num(20), 1)},
		{"the class where it was found", []api.Fast{answers(4, "sum", 5, 90)}, call(ref(triple), "sum", ref(pair)), came(num(90), 1)},
		{"not that of the receiver", []api.Fast{answers(5, "sum", 5, 90)}, call(ref(triple), "sum", ref(pair)), came(num(27), 4)},
		{"one that is overridden", []api.Fast{answers(4, "get", 5, 90)}, call(ref(triple), "get"), came(num(7), 1)},
		{"of what is sent", []api.Fast{answers(4, "get", 5, 90)}, call(ref(pair), "sum", ref(triple)), came(num(97), 4)},
		{"each one its own", []api.Fast{answers(5, "get", 5, 200), answers(4, "get", 5, 90)}, call(ref(pair), "sum", ref(triple)), came(num(290), 4)},
		{"a primitive has none", []api.Fast{answers(3, "+", 5, 90)}, call(num(2), "+", num(3)), came(num(5), 1)},
		{"of a first class", []api.Fast{answers(0, "me", 5, 90)}, call(isNil, "mine"), came(num(90), 2)},
		{"as many arguments as the method has", []api.Fast{answers(4, "get", 5, 90)}, call(ref(pair), "get", num(1)), failed(api.ErrFit, 0)},
		{"of what nobody understands", []api.Fast{answers(0, "deep", 5, 90)}, call(ref(object), "deep"), failed(api.ErrSend, 0)},
	} {
		if _, r := Run(w, x.c, api.MaxFuel, x.l); r != x.want {
			t.Errorf("%s: %v comes, not %v", x.name, r, x.want)
		}
	}
}

func TestK1RunAtTheFirstEpoch(t *testing.T) {
	w := world(t)
	w.Epoch = 0
	if _, r := Run(w, call(ref(pair), "get"), 1, []api.Fast{answers(4, "get", 0, 90)}); r != came(num(90), 1) {
		t.Errorf("%v comes", r)
	}
}

// What fast code sends is found as Find does: from the receiver's class on, upwards.
func TestK1RunFinds(t *testing.T) {
	w := world(t)
	code := api.Fast{Class: 6, Name: "ask", Epoch: w.Epoch, Temps: 1, Code: []api.Instr{arg(0), set(0), temp(0), arg(0), sent("sum", 1, 1), back}}
	for _, x := range []struct {
		v    api.Value
		want api.Ran
	}{
		{ref(pair), came(num(40), 5)},
		{ref(triple), came(num(14), 5)},
		{ref(other), failed(api.ErrSend, 1)},
		{num(4), failed(api.ErrSend, 1)},
	} {
		if _, r := Run(w, call(ref(other), "ask", x.v), api.MaxFuel, []api.Fast{code}); r != x.want {
			t.Errorf("%v: %v comes, not %v", x.v, r, x.want)
		}
	}
}

// alike has it that a run by l is as a plain one.
func alike(t *testing.T, w api.World, c api.Call, fuel int, l []api.Fast) api.Ran {
	t.Helper()
	x, want := run.Plain(w, c, fuel)
	y, r := Run(w, c, fuel, l)
	if r != want || !reflect.DeepEqual(class.Own(x), class.Own(y)) {
		t.Errorf("%v, fuel %d: %v comes, and %v, not %v, and %v", c, fuel, r, y.Heap, want, x.Heap)
	}
	if r.Err != api.OK && !reflect.DeepEqual(class.Own(y), class.Own(w)) {
		t.Errorf("%v, fuel %d: it fails, and changes the world", c, fuel)
	}
	return r
}

func TestK1RunIsAsPlain(t *testing.T) {
	w := world(t)
	l := All(w, counted())
	var calls []api.Call
	values := []api.Value{ref(pair), ref(triple), ref(other), ref(object), isNil, isTrue, num(8)}
	for _, v := range values {
		for _, name := range []string{"get", "once", "over", "mine", "me", "deep", "for", "made", "nobody"} {
			calls = append(calls, call(v, name))
		}
		for _, x := range values {
			for _, name := range []string{"ask", "sum", "keep", "set", "+"} {
				calls = append(calls, call(v, name, x))
			}
		}
	}
	for _, c := range calls {
		for _, fuel := range []int{0, 1, 2, 3, 4, 5, 19, 20, 21, 299, 301, api.MaxFuel} {
			alike(t, w, c, fuel, l)
		}
	}
}

func TestK1RunValues(t *testing.T) {
	w := world(t)
	l := All(w, counted())
	for _, x := range []struct {
		name string
		c    api.Call
		fuel int
		want api.Ran
	}{
		{"pieces stand in", call(ref(pair), "sum", ref(triple)), 4, came(num(27), 4)},
		{"the first one steps back", call(ref(triple), "sum", ref(triple)), 4, came(num(14), 4)},
		{"the second one steps back", call(ref(pair), "sum", ref(pair)), 4, came(num(40), 4)},
		{"no fuel for a primitive", call(ref(pair), "sum", ref(triple)), 3, failed(api.ErrFuel, 3)},
		{"no fuel for a piece", call(ref(pair), "sum", ref(triple)), 2, failed(api.ErrFuel, 2)},
		{"no fuel", call(ref(pair), "sum", ref(triple)), 0, failed(api.ErrFuel, 0)},
		{"nobody understands it", call(ref(pair), "sum", ref(object)), 9, failed(api.ErrSend, 2)},
		{"a setter", call(ref(pair), "keep", num(6)), 3, came(num(6), 3)},
		{"too deep", call(ref(pair), "deep"), 99, failed(api.ErrDeep, api.MaxDeep)},
		{"it turns too often", call(ref(pair), "for"), 400, failed(api.ErrStop, 302)},
	} {
		if r := alike(t, w, x.c, x.fuel, l); r != x.want {
			t.Errorf("%s: %v comes, not %v", x.name, r, x.want)
		}
	}
	y, _ := Run(w, call(ref(pair), "keep", num(6)), 3, l)
	if got := y.Heap[pair].Slots[0]; got != num(6) {
		t.Errorf("%v is set", got)
	}
}

// By fast code, or without, two sends.
func TestK1Example(t *testing.T) {
	w := world(t)
	l := All(w, counted())
	c := call(ref(other), "ask", ref(triple))
	_, by := Run(w, c, api.MaxFuel, l)
	_, without := Run(w, c, api.MaxFuel, nil)
	if !slices.Contains(keys(l), key{6, "ask"}) || by != came(num(7), 2) || without != by {
		t.Errorf("%v comes by fast code, %v without", by, without)
	}
}

func TestK1WrongCalls(t *testing.T) {
	w := world(t)
	l := All(w, counted())
	five := slices.Repeat([]api.Value{isNil}, api.MaxArgs+1)
	for _, x := range []struct {
		c    api.Call
		fuel int
		want api.Errno
	}{
		{call(ref(9), "", five...), -1, api.ErrName},
		{call(ref(9), "a name", five...), -1, api.ErrName},
		{call(ref(9), "get", five...), -1, api.ErrMany},
		{call(ref(9), "get"), -1, api.ErrRange},
		{call(ref(pair), "get"), api.MaxFuel + 1, api.ErrRange},
		{call(ref(pair), "get"), math.MinInt, api.ErrRange},
		{call(ref(pair), "get"), math.MaxInt, api.ErrRange},
		{call(ref(4), "get"), 9, api.ErrNone},
		{call(ref(-1), "get"), 9, api.ErrNone},
		{call(api.Value{Kind: 5}, "get"), 9, api.ErrKind},
		{call(num(api.MaxNumber+1), "me"), 9, api.ErrRange},
		{call(ref(other), "ask", ref(4)), 9, api.ErrNone},
	} {
		if r := alike(t, w, x.c, x.fuel, l); r != failed(x.want, 0) {
			t.Errorf("%v, fuel %d: %v comes, not error %d", x.c, x.fuel, r, x.want)
		}
	}
}

// What is old is not taken: a method that stood in has changed since.
func TestK1Old(t *testing.T) {
	w := world(t)
	old := All(w, counted())
	c := call(ref(pair), "sum", ref(triple))
	w = install(t, w, meth{4, 0, 0, "get", []api.Instr{push(1000), back}})
	if r := alike(t, w, c, 9, old); r != came(num(1007), 4) {
		t.Errorf("%v comes by what is old", r)
	}
	fresh := All(w, counted())
	if r := alike(t, w, c, 9, append(slices.Clone(old), fresh...)); r != came(num(1007), 4) {
		t.Errorf("%v comes by what is new, behind what is old", r)
	}
	for i := range old {
		old[i].Epoch = w.Epoch
	}
	if _, r := Run(w, c, 9, old); r != came(num(27), 4) {
		t.Errorf("%v comes: it is not run by what it is handed", r)
	}
}

func TestK1OfCachedRuns(t *testing.T) {
	w := world(t)
	c := call(ref(other), "ask", ref(triple))
	once := cached.Run(w, c, 9, nil, nil)
	if l := All(w, once.Tallies); len(l) != 0 {
		t.Errorf("%v comes of one receiver", keys(l))
	}
	then := cached.Run(w, c, 9, once.Cells, once.Tallies)
	l := All(w, then.Tallies)
	if !slices.Equal(keys(l), []key{{6, "ask"}}) {
		t.Errorf("%v comes of two receivers", keys(l))
	}
	if r := alike(t, w, c, 9, l); r != came(num(7), 2) {
		t.Errorf("%v comes", r)
	}
}
