package session

import (
	"math"
	"reflect"
	"slices"
	"strings"
	"testing"

	"quickchange/api"
	"quickchange/class"
	"quickchange/wire"
)

func in(op, a int) api.Instr { return api.Instr{Op: op, A: a} }

func send(name string, args int) api.Instr { return api.Instr{Op: api.OpSend, A: args, Name: name} }

var (
	self = in(api.OpSelf, 0)
	null = in(api.OpNil, 0)
	yes  = in(api.OpTrue, 0)
	pop  = in(api.OpPop, 0)
	back = in(api.OpBack, 0)
)

func arg(n int) api.Instr   { return in(api.OpArg, n) }
func temp(n int) api.Instr  { return in(api.OpTemp, n) }
func set(n int) api.Instr   { return in(api.OpSet, n) }
func slot(n int) api.Instr  { return in(api.OpSlot, n) }
func put(n int) api.Instr   { return in(api.OpPut, n) }
func push(n int) api.Instr  { return in(api.OpInt, n) }
func fresh(c int) api.Instr { return in(api.OpNew, c) }
func jump(to int) api.Instr { return in(api.OpJump, to) }

func num(n int) api.Value { return api.Value{Kind: api.ValInt, N: n} }
func ref(n int) api.Value { return api.Value{Kind: api.ValRef, N: n} }

var isNil = api.Value{}

// Steps of all kinds.
var (
	toSave = api.Step{Kind: api.StepSave}
	toLoad = api.Step{Kind: api.StepLoad}
)

func toMake(name string, super, slots int) api.Step {
	return api.Step{Kind: api.StepClass, Name: name, Class: super, Slots: slots}
}

func toInstall(c int, name string, args int, code ...api.Instr) api.Step {
	return api.Step{Kind: api.StepMethod, Class: c, Method: api.Method{Name: name, Args: args, Code: code}}
}

func toNew(c int) api.Step { return api.Step{Kind: api.StepNew, Class: c} }

func toRun(kind int, self api.Value, name string, args ...api.Value) api.Step {
	return api.Step{Kind: kind, Call: api.Call{Self: self, Name: name, Args: args}}
}

// runs are all the ways in which a call is done.
var runs = []int{api.StepPlain, api.StepCached, api.StepFast}

func told(n int) api.Reply { return api.Reply{N: n} }

func came(v api.Value, sends int) api.Reply { return api.Reply{N: sends, Value: v} }

func failed(err api.Errno, n int) api.Reply { return api.Reply{Err: err, N: n} }

func line(c, found int) api.Line { return api.Line{Class: c, Found: found} }

func site(name string, at int) api.Site { return api.Site{Class: 4, Name: name, At: at} }

// same holds sessions against each other by their entries: neither spare room nor nil lists are seen.
func same(a, b api.Session) bool {
	return reflect.DeepEqual(Own(a), Own(b))
}

// after is s after those steps, all of which are done.
func after(t *testing.T, s api.Session, l ...api.Step) api.Session {
	t.Helper()
	for _, x := range l {
		var r api.Reply
		if s, r = Do(s, x); r.Err != api.OK {
			t.Fatalf("%v: error %d", x, r.Err)
		}
	}
	return s
}

// worked is a session with class 4, of one slot, class 5 in it, of one more, and class 6; with methods, and objects 0 to 2,
// one of each.
func worked(t *testing.T) api.Session {
	t.Helper()
	return after(t, New(),
		toMake("Box", 0, 1), toMake("Odd", 4, 1), toMake("Other", 0, 0),
		toInstall(4, "get", 0, slot(0), back),
		toInstall(4, "set", 1, arg(0), put(0), self, back),
		toInstall(4, "twice", 0, self, send("get", 0), self, send("get", 0), send("+", 1), back),
		toInstall(4, "ask", 1, arg(0), send("get", 0), back),
		toInstall(4, "deep", 0, self, send("deep", 0), back),
		toInstall(4, "made", 0, fresh(5), push(3), send("set", 1), back),
		toInstall(4, "spoil", 0, self, push(9), send("set", 1), pop, self, send("nobody", 0), back),
		toInstall(6, "for", 0, jump(0)),
		toNew(4), toNew(5), toNew(6),
		toRun(api.StepPlain, ref(0), "set", num(21)), toRun(api.StepPlain, ref(1), "set", num(4)))
}

func TestL1New(t *testing.T) {
	s := New()
	if !reflect.DeepEqual(class.Own(s.World), class.Own(class.New())) {
		t.Errorf("the world is %v", s.World)
	}
	if len(s.Cells) != 0 || len(s.Tallies) != 0 || len(s.Saved) != 0 {
		t.Errorf("there is something else: %v", s)
	}
}

func TestL1Own(t *testing.T) {
	s := after(t, worked(t), toSave, toRun(api.StepCached, ref(0), "twice"))
	for _, x := range []api.Session{s, New(), {}} {
		if got := Own(x); !reflect.DeepEqual(class.Own(got.World), class.Own(x.World)) || len(got.Cells) != len(x.Cells) ||
			len(got.Tallies) != len(x.Tallies) || string(got.Saved) != string(x.Saved) {
			t.Errorf("%v comes, not %v", got, x)
		}
	}
	if got := Own(s); !reflect.DeepEqual(got.Cells, s.Cells) || !reflect.DeepEqual(got.Tallies, s.Tallies) {
		t.Errorf("%v and %v come, not %v and %v", got.Cells, got.Tallies, s.Cells, s.Tallies)
	}
}

func TestL1StepClass(t *testing.T) {
	s := worked(t)
	full := s
	for n := len(s.World.Classes); n < api.MaxClasses; n++ {
		full = after(t, full, toMake(strings.Repeat("x", n), 0, 0))
	}
	for _, x := range []struct {
		what string
		s    api.Session
		x    api.Step
		want api.Reply
	}{
		{"the first one", New(), toMake("Box", 0, 1), told(4)},
		{"behind others", s, toMake("Box2", 0, 6), told(7)},
		{"in another one", s, toMake("Box2", 5, 4), told(7)},
		{"no name", s, toMake("", 99, -1), failed(api.ErrName, 0)},
		{"a name too long", s, toMake("1234567890123", 0, 0), failed(api.ErrName, 0)},
		{"a name that is taken", s, toMake("Odd", 99, -1), failed(api.ErrName, 0)},
		{"a first one's name", s, toMake("Int", 0, 0), failed(api.ErrName, 0)},
		{"no such class", s, toMake("Box2", 7, -1), failed(api.ErrNone, 0)},
		{"a class below 0", s, toMake("Box2", -1, 0), failed(api.ErrNone, 0)},
		{"slots below 0", s, toMake("Box2", 0, -1), failed(api.ErrRange, 0)},
		{"too many slots", s, toMake("Box2", 0, 7), failed(api.ErrRange, 0)},
		{"too many slots with those above", s, toMake("Box2", 5, 5), failed(api.ErrRange, 0)},
		{"as many as can be", s, toMake("Box2", 5, math.MaxInt), failed(api.ErrRange, 0)},
		{"in numbers", s, toMake("Box2", api.ClassInt, 0), failed(api.ErrRange, 0)},
		{"too many", full, toMake("Box2", 0, 0), failed(api.ErrMany, 0)},
		{"too many, and too many slots", full, toMake("Box2", 0, 7), failed(api.ErrRange, 0)},
	} {
		want := Own(x.s)
		if x.want.Err == api.OK {
			want.World.Classes = append(want.World.Classes, api.Class{Name: x.x.Name, Super: x.x.Class, Slots: x.x.Slots})
		}
		if got, r := Do(x.s, x.x); r != x.want || !same(got, want) {
			t.Errorf("%s: %v comes, not %v; the classes are %v", x.what, r, x.want, got.World.Classes)
		}
	}
}

func TestL1StepMethod(t *testing.T) {
	s := worked(t)
	full := s
	for n := len(s.World.Classes[4].Methods); n < api.MaxMethods; n++ {
		full = after(t, full, toInstall(4, strings.Repeat("m", n), 0, self, back))
	}
	prim := toInstall(4, "add", 1)
	prim.Method.Prim = api.PrimAdd
	temps := toInstall(4, "new", 0, null, set(5), temp(5), back)
	temps.Method.Temps = 6
	odd := toInstall(4, "new", 0, self, back)
	odd.Method.Code[1].C = 1
	for _, x := range []struct {
		what string
		s    api.Session
		x    api.Step
		want api.Reply
	}{
		{"a new one", s, toInstall(4, "new", 0, self, back), told(0)},
		{"with temporaries", s, temps, told(0)},
		{"in the place of another one", s, toInstall(4, "get", 2, null, back), told(0)},
		{"in the place of another one, of as many as can be", full, toInstall(4, "get", 0, null, back), told(0)},
		{"of a first class", s, toInstall(api.ClassObject, "me", 0, self, back), told(0)},
		{"in the place of a primitive", s, toInstall(api.ClassInt, "+", 1, arg(0), back), told(0)},
		{"a slot of the class above", s, toInstall(5, "new", 0, slot(1), back), told(0)},
		{"no such class", s, toInstall(7, "", -1), failed(api.ErrNone, 0)},
		{"a class below 0", s, toInstall(-1, "new", 0, self, back), failed(api.ErrNone, 0)},
		{"no name", s, toInstall(4, "", -1), failed(api.ErrName, 0)},
		{"arguments below 0", s, toInstall(4, "new", -1), failed(api.ErrRange, 0)},
		{"too many arguments", s, toInstall(4, "new", 5, self, back), failed(api.ErrRange, 0)},
		{"a primitive", s, prim, failed(api.ErrKind, 0)},
		{"no instructions", s, toInstall(4, "new", 0), failed(api.ErrMany, 0)},
		{"too many instructions", s, toInstall(4, "new", 0, slices.Repeat([]api.Instr{self}, 61)...), failed(api.ErrMany, 0)},
		{"no such instruction", s, toInstall(4, "new", 0, self, pop, in(18, 0), back), failed(api.ErrKind, 2)},
		{"no such slot", s, toInstall(4, "new", 0, slot(1), back), failed(api.ErrRange, 0)},
		{"no such class is made", s, toInstall(4, "new", 0, self, pop, self, pop, fresh(7), back), failed(api.ErrRange, 4)},
		{"a field too much", s, odd, failed(api.ErrForm, 1)},
		{"it ends too soon", s, toInstall(4, "new", 0, push(5)), failed(api.ErrEnd, 1)},
		{"nothing is there", s, toInstall(4, "new", 0, self, pop, pop), failed(api.ErrFit, 2)},
		{"too much", s, toInstall(4, "new", 0, slices.Repeat([]api.Instr{self}, 20)...), failed(api.ErrMuch, 12)},
		{"too many", full, toInstall(4, "new", 0, self, back), failed(api.ErrMany, 0)},
		{"too many, and wrong", full, toInstall(4, "new", 0, self, pop, pop), failed(api.ErrFit, 2)},
	} {
		want := Own(x.s)
		if x.want.Err == api.OK {
			want.World, _ = class.Install(want.World, x.x.Class, x.x.Method)
			if want.World.Epoch != x.s.World.Epoch+1 {
				t.Fatalf("%s: the epoch is %d", x.what, want.World.Epoch)
			}
		}
		if got, r := Do(x.s, x.x); r != x.want || !same(got, want) {
			t.Errorf("%s: %v comes, not %v; the classes are %v", x.what, r, x.want, got.World.Classes)
		}
	}
}

func TestL1StepNew(t *testing.T) {
	s := worked(t)
	full := s
	for n := len(s.World.Heap); n < api.MaxHeap; n++ {
		full = after(t, full, toNew(0))
	}
	for _, x := range []struct {
		what  string
		s     api.Session
		class int
		slots int
		err   api.Errno
	}{
		{"of Object", New(), 0, 0, api.OK},
		{"of the first one", s, 4, 1, api.OK},
		{"with slots of the class above", s, 5, 2, api.OK},
		{"of the last one", s, 6, 0, api.OK},
		{"of Nil", s, api.ClassNil, 0, api.ErrNone},
		{"of Bool", s, api.ClassBool, 0, api.ErrNone},
		{"of Int", s, api.ClassInt, 0, api.ErrNone},
		{"below 0", s, -1, 0, api.ErrNone},
		{"no such class", s, 7, 0, api.ErrNone},
		{"none is made yet", New(), 4, 0, api.ErrNone},
		{"far away", s, math.MaxInt, 0, api.ErrNone},
		{"far below", s, math.MinInt, 0, api.ErrNone},
		{"no room", full, 4, 0, api.ErrFull},
		{"no room, no class", full, 7, 0, api.ErrNone},
	} {
		want, reply := Own(x.s), failed(x.err, 0)
		if x.err == api.OK {
			n := len(want.World.Heap)
			want.World.Heap = append(want.World.Heap, api.Object{Class: x.class, Slots: make([]api.Value, x.slots)})
			reply = came(ref(n), n)
		}
		if got, r := Do(x.s, toNew(x.class)); r != reply || !same(got, want) {
			t.Errorf("%s: %v comes, not %v; the objects are %v", x.what, r, reply, got.World.Heap)
		}
	}
}

// Whichever way it is called: the same comes of it, and the world is the same.
func TestL1StepRuns(t *testing.T) {
	s := after(t, worked(t), toRun(api.StepCached, ref(0), "twice"), toRun(api.StepCached, ref(0), "twice"))
	five := slices.Repeat([]api.Value{isNil}, api.MaxArgs+1)
	s = after(t, s, toInstall(6, "much", 1, slices.Concat(slices.Repeat([]api.Instr{arg(0), send("twice", 0), pop}, 19), []api.Instr{self, back})...),
		toInstall(6, "more", 1, slices.Concat(slices.Repeat([]api.Instr{self, arg(0), send("much", 1), pop}, 9), []api.Instr{self, back})...))
	for _, x := range []struct {
		what string
		x    api.Step
		want api.Reply
	}{
		{"a primitive", toRun(0, num(2), "+", num(5)), came(num(7), 1)},
		{"a getter", toRun(0, ref(0), "get"), came(num(21), 1)},
		{"it sends", toRun(0, ref(0), "twice"), came(num(42), 4)},
		{"another one comes", toRun(0, ref(1), "twice"), came(num(8), 4)},
		{"a setter", toRun(0, ref(0), "set", num(5)), came(ref(0), 1)},
		{"it makes an object", toRun(0, ref(0), "made"), came(ref(3), 2)},
		{"nobody understands it", toRun(0, ref(0), "nobody"), failed(api.ErrSend, 0)},
		{"nobody understands what is sent", toRun(0, ref(0), "ask", num(2)), failed(api.ErrSend, 1)},
		{"what it did is not done", toRun(0, ref(0), "spoil"), failed(api.ErrSend, 2)},
		{"too few arguments", toRun(0, ref(0), "ask"), failed(api.ErrFit, 0)},
		{"no number", toRun(0, num(2), "+", ref(0)), failed(api.ErrInt, 1)},
		{"too deep", toRun(0, ref(0), "deep"), failed(api.ErrDeep, api.MaxDeep)},
		{"too many turns", toRun(0, ref(2), "for"), failed(api.ErrStop, 1)},
		{"as many sends as there may be, less some", toRun(0, ref(2), "much", ref(0)), came(ref(2), 77)},
		{"too many sends", toRun(0, ref(2), "more", ref(0)), failed(api.ErrFuel, api.MaxFuel)},
		{"no name", toRun(0, ref(9), "", five...), failed(api.ErrName, 0)},
		{"too many arguments", toRun(0, ref(9), "get", five...), failed(api.ErrMany, 0)},
		{"no such object", toRun(0, ref(3), "get"), failed(api.ErrNone, 0)},
		{"no such object, as an argument", toRun(0, ref(0), "set", ref(-1)), failed(api.ErrNone, 0)},
		{"no such kind", toRun(0, api.Value{Kind: 5}, "get"), failed(api.ErrKind, 0)},
		{"no such nil", toRun(0, api.Value{N: 1}, "get"), failed(api.ErrForm, 0)},
		{"no such number", toRun(0, num(api.MaxNumber+1), "get"), failed(api.ErrRange, 0)},
	} {
		for _, kind := range runs {
			x.x.Kind = kind
			got, r := Do(s, x.x)
			if r != x.want {
				t.Errorf("%s, kind %d: %v comes, not %v", x.what, kind, r, x.want)
			}
			want := Own(s)
			if kind == api.StepCached {
				want.Cells, want.Tallies = got.Cells, got.Tallies
			}
			if r.Err == api.OK && x.x.Call.Name == "set" {
				want.World.Heap[0].Slots[0] = num(5)
			}
			if r.Err == api.OK && x.x.Call.Name == "made" {
				want.World.Heap = append(want.World.Heap, api.Object{Class: 5, Slots: []api.Value{num(3), isNil}})
			}
			if !same(got, want) {
				t.Errorf("%s, kind %d: %v is there then, not %v", x.what, kind, got, want)
			}
		}
	}
}

// Caches and tallies go from run to run, and are told of runs that fail too.
func TestL1StepCached(t *testing.T) {
	s := worked(t)
	e := s.World.Epoch
	ask := func(v api.Value, want api.Reply) {
		t.Helper()
		var r api.Reply
		if s, r = Do(s, toRun(api.StepCached, ref(0), "ask", v)); r != want {
			t.Errorf("%v: %v comes, not %v", v, r, want)
		}
	}
	check := func(what string, cells []api.Cell, tallies ...api.Line) {
		t.Helper()
		want := Own(s)
		want.Cells, want.Tallies = cells, []api.Tally{{Site: site("ask", 1), Classes: tallies}}
		if !same(s, want) {
			t.Errorf("%s: the cells are %v, the tallies %v", what, s.Cells, s.Tallies)
		}
	}
	cell := func(epoch int, l ...api.Line) []api.Cell {
		return []api.Cell{{Site: site("ask", 1), Epoch: epoch, Lines: l}}
	}
	ask(ref(2), failed(api.ErrSend, 1))
	check("it fails", nil, line(6, 1))
	ask(ref(0), came(num(21), 2))
	check("once", cell(e, line(4, 4)), line(6, 1), line(4, 1))
	ask(ref(0), came(num(21), 2))
	check("twice", cell(e, line(4, 4)), line(6, 1), line(4, 2))
	ask(ref(1), came(num(4), 2))
	check("another one", cell(e, line(4, 4), line(5, 4)), line(6, 1), line(4, 2), line(5, 1))
	s = after(t, s, toInstall(5, "get", 0, push(7), back))
	check("a method is changed", cell(e, line(4, 4), line(5, 4)), line(6, 1), line(4, 2), line(5, 1))
	ask(ref(1), came(num(7), 2))
	check("what is old is not taken", cell(e+1, line(5, 5)), line(6, 1), line(4, 2), line(5, 2))
}

// Of the session's own tallies: a piece that stands in shows itself only by what it does, so it must be the same.
func TestL1StepFast(t *testing.T) {
	s := worked(t)
	twice := func(n int, want api.Reply) {
		t.Helper()
		got, r := Do(s, toRun(api.StepFast, ref(n), "twice"))
		if r != want || !same(got, s) {
			t.Errorf("%v comes, not %v; %v is there then", r, want, got)
		}
	}
	twice(0, came(num(42), 4))
	for range 3 {
		s = after(t, s, toRun(api.StepCached, ref(0), "twice"))
		twice(0, came(num(42), 4))
		twice(1, came(num(8), 4))
	}
	s = after(t, s, toInstall(5, "get", 0, push(50), back))
	twice(0, came(num(42), 4))
	twice(1, came(num(100), 4))
	s = after(t, s, toInstall(4, "get", 0, push(60), back))
	twice(0, came(num(120), 4))
	s = after(t, s, toInstall(4, "twice", 0, self, send("get", 0), back))
	twice(0, came(num(60), 2))
	twice(1, came(num(50), 2))
}

func TestL1StepSave(t *testing.T) {
	s, r := Do(New(), toSave)
	if want := string(wire.Bytes(class.New())); string(s.Saved) != want || r != told(len(want)) {
		t.Errorf("%q is saved, not %q; %v comes", s.Saved, want, r)
	}
	s = after(t, worked(t), toSave, toRun(api.StepCached, ref(0), "twice"), toNew(4))
	want := Own(s)
	want.Saved = wire.Bytes(s.World)
	got, r := Do(s, toSave)
	if !same(got, want) || r != told(len(want.Saved)) || string(s.Saved) == string(got.Saved) {
		t.Errorf("%v is there then, not %v; %v comes", got, want, r)
	}
}

func TestL1StepLoad(t *testing.T) {
	for _, s := range []api.Session{New(), worked(t), after(t, worked(t), toRun(api.StepCached, ref(0), "twice"))} {
		if got, r := Do(s, toLoad); r != failed(api.ErrNone, 0) || !same(got, s) {
			t.Errorf("nothing is saved: %v comes", r)
		}
		s.Saved = []byte{}
		if _, r := Do(s, toLoad); r != failed(api.ErrNone, 0) {
			t.Errorf("an empty text is saved: %v comes", r)
		}
	}
	saved := after(t, worked(t), toRun(api.StepCached, ref(0), "twice"), toSave)
	e := saved.World.Epoch
	for _, x := range []struct {
		what  string
		l     []api.Step
		epoch int
	}{
		{"at once", nil, e + 1},
		{"a class is made", []api.Step{toMake("More", 0, 0), toNew(7)}, e + 1},
		{"a method is changed", []api.Step{toInstall(4, "get", 0, null, back)}, e + 2},
		{"methods are changed", []api.Step{toInstall(4, "get", 0, null, back), toInstall(4, "get", 0, self, back), toInstall(0, "me", 0, self, back)}, e + 4},
		{"an object is changed", []api.Step{toRun(api.StepPlain, ref(0), "set", isNil), toRun(api.StepCached, ref(0), "made")}, e + 1},
		{"it was loaded already", []api.Step{toLoad}, e + 2},
		{"it was loaded often", []api.Step{toLoad, toInstall(4, "get", 0, null, back), toLoad, toLoad}, e + 5},
	} {
		s := after(t, saved, x.l...)
		want := Own(s)
		want.World = class.Own(saved.World)
		want.World.Epoch = x.epoch
		if got, r := Do(s, toLoad); r != told(0) || !same(got, want) {
			t.Errorf("%s: %v is there then, not %v; %v comes", x.what, got, want, r)
		}
	}
}

// The greater epoch may be that of what was saved, too: of a session whose world is an older one.
func TestL1StepLoadOfAGreaterEpoch(t *testing.T) {
	s := after(t, worked(t), toSave)
	e := s.World.Epoch
	for _, x := range []struct{ is, want int }{{0, e + 1}, {e - 1, e + 1}, {e, e + 1}, {e + 1, e + 2}, {900, 901}} {
		s.World.Epoch = x.is
		if got, r := Do(s, toLoad); r != told(0) || got.World.Epoch != x.want {
			t.Errorf("at epoch %d, of %d: %d comes, not %d", x.is, e, got.World.Epoch, x.want)
		}
	}
}

// What caches remember of methods that are gone is not taken when a world is loaded, nor is what they remember of classes
// that were made since, though others have their numbers then.
func TestL1StepLoadForgets(t *testing.T) {
	s := after(t, worked(t), toSave, toInstall(5, "get", 0, push(50), back), toMake("More", 5, 0), toNew(7))
	ask := func(n int, want api.Reply) {
		t.Helper()
		for _, kind := range []int{api.StepCached, api.StepCached, api.StepCached, api.StepFast, api.StepPlain} {
			var r api.Reply
			if s, r = Do(s, toRun(kind, ref(0), "ask", ref(n))); r != want {
				t.Errorf("kind %d, %d: %v comes, not %v", kind, n, r, want)
			}
		}
	}
	ask(1, came(num(50), 2))
	ask(3, came(num(50), 2))
	s = after(t, s, toLoad)
	ask(1, came(num(4), 2))
	ask(3, failed(api.ErrNone, 0))
	s = after(t, s, toMake("Else", 4, 0), toNew(7))
	ask(3, came(isNil, 2))
	s = after(t, s, toLoad, toMake("Else", 0, 0), toNew(7))
	ask(3, failed(api.ErrSend, 1))
	s = after(t, s, toInstall(5, "get", 0, push(51), back))
	ask(1, came(num(51), 2))
}

func TestL1NoSuchKind(t *testing.T) {
	s := after(t, worked(t), toSave)
	for _, kind := range []int{0, 9, -1, 10, math.MaxInt, math.MinInt} {
		x := toRun(kind, ref(0), "set", isNil)
		x.Name, x.Method = "More", api.Method{Name: "get", Code: []api.Instr{null, back}}
		if got, r := Do(s, x); r != failed(api.ErrKind, 0) || !same(got, s) {
			t.Errorf("kind %d: %v comes", kind, r)
		}
	}
}

// Fields that a kind has not mean nothing.
func TestL1OtherFields(t *testing.T) {
	s := after(t, worked(t), toSave)
	for _, x := range []api.Step{
		toMake("More", 4, 2), toInstall(4, "get", 0, null, back), toNew(5), toSave, toLoad,
		toRun(api.StepPlain, ref(0), "made"), toRun(api.StepCached, ref(0), "twice"), toRun(api.StepFast, ref(0), "twice"),
	} {
		y := x
		if x.Kind != api.StepClass {
			y.Name, y.Slots = "\n", -7
		}
		if x.Kind != api.StepClass && x.Kind != api.StepMethod && x.Kind != api.StepNew {
			y.Class = -7
		}
		if x.Kind != api.StepMethod {
			y.Method = api.Method{Args: -7, Prim: 77, Code: []api.Instr{{Op: 77}}}
		}
		if x.Call.Name == "" {
			y.Call = api.Call{Self: ref(77), Args: make([]api.Value, 9)}
		}
		want, reply := Do(s, x)
		if got, r := Do(s, y); r != reply || !same(got, want) || r.Err != api.OK {
			t.Errorf("kind %d: %v comes, not %v", x.Kind, r, reply)
		}
	}
}

// A class is made, an object, the world is saved; 2 and 5 make 7; it is loaded.
func TestL1Example(t *testing.T) {
	s, l, err := Play([]api.Step{toMake("Box", 0, 1), toNew(4), toSave, toRun(api.StepPlain, num(2), "+", num(5)), toLoad})
	saved := "0 5 Object -1 0 0 Nil 0 0 0 Bool 0 0 0 Int 0 0 5 * 1 0 3 0 + 1 0 1 0 - 1 0 2 0 < 1 0 4 0 = 1 0 5 0 Box 0 1 0 1 4 1 0 0 "
	want := []api.Reply{told(4), came(ref(0), 0), told(len(saved)), came(num(7), 1), told(0)}
	if err != api.OK || !slices.Equal(l, want) || string(s.Saved) != saved {
		t.Errorf("%v comes, not %v; %q is saved", l, want, s.Saved)
	}
	if b := wire.Bytes(s.World); string(b) != "1"+saved[1:] {
		t.Errorf("the world is %q", b)
	}
}

func TestL1Play(t *testing.T) {
	for _, l := range [][]api.Step{nil, {}} {
		if s, r, err := Play(l); err != api.OK || len(r) != 0 || !same(s, New()) {
			t.Errorf("of no steps %v, %v and %d come", s, r, err)
		}
	}
	steps := []api.Step{
		toLoad, toMake("Box", 0, 1), toMake("Box", 0, 1), toInstall(4, "get", 0, slot(0), back), toInstall(4, "bad", 0, self),
		toInstall(4, "twice", 0, self, send("get", 0), self, send("get", 0), send("+", 1), back), toNew(4), toNew(1),
		toRun(api.StepCached, ref(0), "twice"), toSave, {}, toRun(api.StepFast, ref(0), "twice"), toRun(api.StepPlain, ref(0), "get"), toLoad,
	}
	saved := "2 5 Object -1 0 0 Nil 0 0 0 Bool 0 0 0 Int 0 0 5 * 1 0 3 0 + 1 0 1 0 - 1 0 2 0 < 1 0 4 0 = 1 0 5 0 " +
		"Box 0 1 2 get 0 0 0 2 4 0 17 0 twice 0 0 0 6 1 0 14 0 get 1 0 14 0 get 14 1 + 17 0 1 4 1 0 0 "
	want := []api.Reply{
		failed(api.ErrNone, 0), told(4), failed(api.ErrName, 0), told(0), failed(api.ErrEnd, 1),
		told(0), came(ref(0), 0), failed(api.ErrNone, 0),
		failed(api.ErrSend, 3), told(len(saved)), failed(api.ErrKind, 0), failed(api.ErrSend, 3), came(isNil, 1), told(0),
	}
	s := New()
	for n := range len(steps) + 1 {
		got, r, err := Play(steps[:n])
		if err != api.OK || !slices.Equal(r, want[:n]) || !same(got, s) {
			t.Fatalf("%d steps: %v comes, not %v", n, r, want[:n])
		}
		if n < len(steps) {
			s, _ = Do(s, steps[n])
		}
	}
}

func TestL1PlayTooMany(t *testing.T) {
	for _, n := range []int{59, 60} {
		s, r, err := Play(slices.Repeat([]api.Step{toNew(0)}, n))
		if err != api.OK || len(r) != n || len(s.World.Heap) != n || r[n-1] != came(ref(n-1), n-1) {
			t.Errorf("%d steps: %v and %d come", n, r, err)
		}
	}
	for _, n := range []int{61, 62, 1000} {
		s, r, err := Play(slices.Repeat([]api.Step{toNew(0)}, n))
		if err != api.ErrMany || len(r) != 0 || !reflect.DeepEqual(s, api.Session{}) {
			t.Errorf("%d steps: %v, %v and %d come", n, s, r, err)
		}
	}
}
