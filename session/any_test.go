package session

import (
	"math"
	"math/rand"
	"reflect"
	"slices"
	"testing"

	"quickchange/api"
	"quickchange/cached"
	"quickchange/class"
	"quickchange/code"
	"quickchange/fast"
	"quickchange/run"
	"quickchange/value"
	"quickchange/wire"
)

// author writes steps at random, most of which are done.
type author struct {
	*rand.Rand
	s api.Session
}

func pick[T any](a *author, l ...T) T { return l[a.Intn(len(l))] }

// class is one of which there are objects, most of the time.
func (a *author) class() int {
	if a.Intn(8) == 0 {
		return a.Intn(len(a.s.World.Classes)+2) - 1
	}
	return pick(a, 0, 4, 5, 6)
}

func (a *author) value() api.Value {
	if n := len(a.s.World.Heap); a.Intn(4) > 0 {
		return ref(a.Intn(n + 1 - min(a.Intn(9), 1, n)))
	}
	return pick(a, isNil, num(a.Intn(9)), value.Bool(true), value.Bool(false), api.Value{Kind: api.ValNil, N: 3})
}

func (a *author) pushes(args int) api.Instr {
	l := []api.Instr{self, self, push(a.Intn(9)), fresh(a.class())}
	for n := range args {
		l = append(l, arg(n), arg(n), arg(n))
	}
	return pick(a, l...)
}

func (a *author) code(args int) []api.Instr {
	one, two := a.pushes(args), a.pushes(args)
	switch a.Intn(9) {
	case 0, 1:
		return []api.Instr{slot(a.Intn(2)), back}
	case 2:
		return []api.Instr{one, put(a.Intn(2)), self, back}
	case 3:
		return []api.Instr{one, back}
	case 4:
		return []api.Instr{one, send("get", 0), two, send("get", 0), send("+", 1), back}
	case 5:
		return []api.Instr{pick(a, yes, in(api.OpFalse, 0), one), in(api.OpElse, 0), two, back}
	case 6:
		return []api.Instr{self, send("get", 0), pop, self, one, send("set", 1), send("me", 0), back}
	case 7:
		return []api.Instr{one, send(pick(a, "get", "sum", "me"), 0), back}
	}
	return []api.Instr{one, two, send(pick(a, "set", "ask"), 1), back}
}

// kind is such that there is something to be worked with at first.
func (a *author) kind(at int) int {
	switch {
	case at < 6:
		return api.StepClass
	case at < 18:
		return api.StepMethod
	case at < 22:
		return api.StepNew
	}
	return pick(a, 1, 2, 2, 3, 4, 4, 5, 5, 5, 5, 5, 5, 6, 6, 6, 7, 8, a.Intn(11)-1)
}

func (a *author) step(at int) api.Step {
	args := a.Intn(2)
	name := [][]string{{"get", "sum", "me"}, {"set", "ask", "+"}}[args][a.Intn(3)]
	c := api.Call{Self: a.value(), Name: name}
	for range args {
		c.Args = append(c.Args, a.value())
	}
	x := api.Step{Kind: a.kind(at), Class: a.class(), Slots: a.Intn(4) - 1, Name: pick(a, "A", "B", "C", "D", "E", ""), Call: c}
	x.Method = api.Method{Name: name, Args: args, Code: a.code(args)}
	return x
}

// expected is what the layers tell of x, each asked by itself.
func expected(s api.Session, x api.Step) (api.Session, api.Reply) {
	s = Own(s)
	w := class.Own(s.World)
	var r api.Reply
	var ran api.Ran
	switch x.Kind {
	case 1:
		w, r.N, r.Err = class.Make(w, x.Name, x.Class, x.Slots)
	case 2:
		f := code.Check(w, x.Class, x.Method)
		if r = failed(f.Err, f.At); r.Err == api.OK {
			w, r.Err = class.Install(w, x.Class, x.Method)
		}
	case 3:
		if x.Class < 0 || x.Class > 0 && x.Class < 4 || x.Class >= len(w.Classes) {
			return s, failed(api.ErrNone, 0)
		}
		w.Heap, r.Value, r.Err = value.New(w.Heap, x.Class, class.Slots(w, x.Class))
		r.N = r.Value.N
	case 4:
		w, ran = run.Plain(w, x.Call, 400)
		r = api.Reply{Err: ran.Err, N: ran.Sends, Value: ran.Value}
	case 5:
		c := cached.Run(w, x.Call, 400, s.Cells, s.Tallies)
		s.Cells, s.Tallies, w = c.Cells, c.Tallies, c.World
		r = api.Reply{Err: c.Ran.Err, N: c.Ran.Sends, Value: c.Ran.Value}
	case 6:
		w, ran = fast.Run(w, x.Call, 400, fast.All(w, s.Tallies))
		r = api.Reply{Err: ran.Err, N: ran.Sends, Value: ran.Value}
	case 7:
		s.Saved = wire.Bytes(w)
		r.N = len(s.Saved)
	case 8:
		if len(s.Saved) == 0 {
			return s, failed(api.ErrNone, 0)
		}
		w, r.Err = wire.Parse(s.Saved)
		w.Epoch = max(w.Epoch, s.World.Epoch) + 1
	default:
		r.Err = api.ErrKind
	}
	if r.Err == api.OK {
		s.World = w
	}
	return s, r
}

// allAlike has it that the call is the same, whichever way it is called.
func allAlike(t *testing.T, s api.Session, c api.Call) {
	t.Helper()
	var worlds []api.World
	var replies []api.Reply
	for _, kind := range runs {
		got, r := Do(s, api.Step{Kind: kind, Call: c})
		worlds, replies = append(worlds, class.Own(got.World)), append(replies, r)
	}
	for n := range runs {
		if replies[n] != replies[0] || !reflect.DeepEqual(worlds[n], worlds[0]) {
			t.Errorf("%v: kind %d: %v comes, not %v", c, runs[n], replies[n], replies[0])
		}
	}
}

// soStill has it that what the cells of s remember, of its epoch, is so.
func soStill(t *testing.T, s api.Session) {
	t.Helper()
	for _, cell := range s.Cells {
		if cell.Epoch > s.World.Epoch {
			t.Errorf("%v is of an epoch yet to come", cell)
		}
		if cell.Epoch != s.World.Epoch {
			continue
		}
		at := cell.Site
		_, n := class.Find(s.World, at.Class, at.Name)
		x := s.World.Classes[at.Class].Methods[n].Code[at.At]
		for _, l := range cell.Lines {
			if found, _ := class.Find(s.World, l.Class, x.Name); found != l.Found {
				t.Errorf("%v remembers %v, but it is %d", at, l, found)
			}
		}
	}
}

// TestL1Any has sessions at random: each step is as the layers tell it, worlds stay right, what is refused changes nothing,
// and calls are the same, whichever way.
func TestL1Any(t *testing.T) {
	done, codes := map[int]int{}, 0
	for seed := range 400 {
		a := author{Rand: rand.New(rand.NewSource(int64(seed))), s: New()}
		var steps []api.Step
		var replies []api.Reply
		for at := range api.MaxSession {
			x := a.step(at)
			want, reply := expected(a.s, x)
			got, r := Do(a.s, x)
			if r != reply || !same(got, want) {
				t.Fatalf("seed %d, %v: %v comes, not %v; %v is there then, not %v", seed, x, r, reply, got, want)
			}
			if err := wire.Right(got.World); err != api.OK {
				t.Fatalf("seed %d, %v: the world is no longer right: error %d", seed, x, err)
			}
			if was := Own(a.s); r.Err != api.OK {
				if x.Kind == api.StepCached {
					was.Cells, was.Tallies = got.Cells, got.Tallies
				}
				if !same(got, was) {
					t.Fatalf("seed %d, %v: what fails changes something", seed, x)
				}
			} else {
				done[x.Kind]++
			}
			a.s = got
			soStill(t, a.s)
			allAlike(t, a.s, x.Call)
			codes += len(fast.All(a.s.World, a.s.Tallies))
			steps, replies = append(steps, x), append(replies, r)
		}
		if s, l, err := Play(steps); err != api.OK || !slices.Equal(l, replies) || !same(s, a.s) {
			t.Errorf("seed %d: it is played otherwise than it is done", seed)
		}
	}
	for kind := 1; kind <= 8; kind++ {
		if done[kind] < 100 {
			t.Errorf("%d steps of kind %d are too few to tell anything", done[kind], kind)
		}
	}
	if codes < 300 {
		t.Errorf("%d methods are too few to tell anything", codes)
	}
}

// roomy is l with spare room behind it, whose entries are marked.
func roomy[T any](l []T, mark T) []T {
	r := append(make([]T, 0, len(l)+2), l...)
	copy(r[len(l):cap(r)], []T{mark, mark})
	return r
}

// withRoom is s with spare room behind all its lists.
func withRoom(s api.Session) api.Session {
	s = Own(s)
	for i, c := range s.World.Classes {
		for k, m := range c.Methods {
			c.Methods[k].Code = roomy(m.Code, null)
		}
		s.World.Classes[i].Methods = roomy(c.Methods, api.Method{Name: "zzz"})
	}
	for i, o := range s.World.Heap {
		s.World.Heap[i].Slots = roomy(o.Slots, num(66))
	}
	for i, c := range s.Cells {
		s.Cells[i].Lines = roomy(c.Lines, line(4, 66))
	}
	for i, c := range s.Tallies {
		s.Tallies[i].Classes = roomy(c.Classes, line(4, 66))
	}
	s.World.Classes = roomy(s.World.Classes, api.Class{Name: "More"})
	s.World.Heap = roomy(s.World.Heap, api.Object{Class: 66})
	s.Cells = roomy(s.Cells, api.Cell{Site: site("ask", 1), Epoch: s.World.Epoch, Lines: []api.Line{line(4, 66)}})
	s.Tallies = roomy(s.Tallies, api.Tally{Site: site("ask", 1), Classes: []api.Line{line(4, 66)}})
	s.Saved = roomy(s.Saved, '7')
	return s
}

// whole is a copy of s in which spare room is there as entries.
func whole(s api.Session) api.Session {
	s.World.Classes, s.World.Heap = slices.Clone(s.World.Classes[:cap(s.World.Classes)]), slices.Clone(s.World.Heap[:cap(s.World.Heap)])
	for i, c := range s.World.Classes {
		c.Methods = slices.Clone(c.Methods[:cap(c.Methods)])
		for k, m := range c.Methods {
			c.Methods[k].Code = slices.Clone(m.Code[:cap(m.Code)])
		}
		s.World.Classes[i].Methods = c.Methods
	}
	for i, o := range s.World.Heap {
		s.World.Heap[i].Slots = slices.Clone(o.Slots[:cap(o.Slots)])
	}
	s.Cells, s.Tallies = slices.Clone(s.Cells[:cap(s.Cells)]), slices.Clone(s.Tallies[:cap(s.Tallies)])
	for i, c := range s.Cells {
		s.Cells[i].Lines = slices.Clone(c.Lines[:cap(c.Lines)])
	}
	for i, c := range s.Tallies {
		s.Tallies[i].Classes = slices.Clone(c.Classes[:cap(c.Classes)])
	}
	s.Saved = slices.Clone(s.Saved[:cap(s.Saved)])
	return s
}

func fill[T any](l []T, mark T) {
	l = l[:cap(l)]
	for i := range l {
		l[i] = mark
	}
}

// spoil changes all that s reaches, spare room too.
func spoil(s api.Session) {
	for _, c := range s.World.Classes[:cap(s.World.Classes)] {
		for _, m := range c.Methods[:cap(c.Methods)] {
			fill(m.Code, in(77, 77))
		}
		fill(c.Methods, api.Method{Name: "spoilt"})
	}
	for _, o := range s.World.Heap[:cap(s.World.Heap)] {
		fill(o.Slots, num(-9))
	}
	for _, c := range s.Cells[:cap(s.Cells)] {
		fill(c.Lines, line(-9, -9))
	}
	for _, c := range s.Tallies[:cap(s.Tallies)] {
		fill(c.Classes, line(-9, -9))
	}
	fill(s.World.Classes, api.Class{Name: "spoilt"})
	fill(s.World.Heap, api.Object{Class: -9})
	fill(s.Cells, api.Cell{Epoch: -9, Many: true})
	fill(s.Tallies, api.Tally{Site: site("spoilt", -9)})
	fill(s.Saved, 'x')
}

func spoilStep(x api.Step) {
	fill(x.Method.Code, in(77, 77))
	fill(x.Call.Args, num(-9))
}

// memorySteps are steps of all kinds, that are done, and that are refused, each with lists of its own.
func memorySteps() []api.Step {
	l := []api.Step{
		toMake("More", 4, 1), toMake("Box", 4, 1), toInstall(4, "get", 0, slot(0), back), toInstall(5, "new", 0, push(3), back),
		toInstall(4, "bad", 0, self), toNew(5), toNew(1), toSave, toLoad, {},
	}
	for _, kind := range runs {
		l = append(l, toRun(kind, ref(0), "set", num(5)), toRun(kind, ref(0), "ask", ref(1)), toRun(kind, ref(0), "made"),
			toRun(kind, ref(0), "spoil"), toRun(kind, ref(9), "get"))
	}
	for i, x := range l {
		l[i].Method.Code, l[i].Call.Args = roomy(x.Method.Code, back), roomy(x.Call.Args, num(66))
	}
	return l
}

// What is handed in is only read, nothing of it is kept, and what is answered is the caller's.
func TestL1Memory(t *testing.T) {
	base := after(t, worked(t), toRun(api.StepCached, ref(0), "twice"), toRun(api.StepCached, ref(1), "twice"), toSave)
	calls := []func(s api.Session) api.Session{Own}
	for i := range memorySteps() {
		calls = append(calls, func(s api.Session) api.Session {
			x, y := memorySteps()[i], memorySteps()[i]
			got, _ := Do(s, x)
			if !reflect.DeepEqual(x, y) || !reflect.DeepEqual(x.Method.Code[:cap(x.Method.Code)], y.Method.Code[:cap(y.Method.Code)]) ||
				!reflect.DeepEqual(x.Call.Args[:cap(x.Call.Args)], y.Call.Args[:cap(y.Call.Args)]) {
				t.Errorf("step %d is changed", i)
			}
			spoilStep(x)
			return got
		})
	}
	for i, do := range calls {
		s := withRoom(base)
		before := whole(s)
		first := do(s)
		second := do(s)
		want := Own(second)
		if plain := do(Own(base)); !same(plain, want) || !same(first, want) {
			t.Errorf("call %d: what comes hangs on the spare room, or on what was called", i)
		}
		spoil(first)
		if !reflect.DeepEqual(whole(s), before) {
			t.Errorf("call %d: what was handed in is changed, or shared", i)
		}
		spoil(s)
		if !same(second, want) {
			t.Errorf("call %d: something of what was handed in is kept", i)
		}
	}
}

func TestL1PlayMemory(t *testing.T) {
	l := append([]api.Step{toMake("Box", 0, 1), toInstall(4, "set", 1, arg(0), put(0), self, back), toNew(4)}, memorySteps()...)
	first, r, _ := Play(l)
	second, q, _ := Play(l)
	want, replies := Own(second), slices.Clone(q)
	spoil(first)
	fill(r, told(77))
	for _, x := range l {
		spoilStep(x)
	}
	fill(l, api.Step{Kind: 77})
	if !same(second, want) || !slices.Equal(q, replies) {
		t.Error("what is answered is not the caller's")
	}
	spoil(New())
	if !same(New(), api.Session{World: class.New()}) {
		t.Error("what New answers is not the caller's")
	}
}

// Of sessions that no Do has made: no call panics, and all end.
func TestL1WrongOnes(t *testing.T) {
	right := after(t, worked(t), toSave)
	for _, n := range []int{-1, 0, 1, 5, 41, math.MinInt, math.MaxInt} {
		odd := api.Method{Name: "get", Args: n, Temps: n, Prim: n, Code: []api.Instr{arg(n), send("get", n), jump(n), {Op: n}, fresh(n), back}}
		w := api.World{Classes: []api.Class{{Super: n, Slots: n, Methods: []api.Method{odd, odd}}, {Super: 1, Slots: n, Methods: []api.Method{odd}}}, Heap: []api.Object{{Class: n}, {Class: 1}}, Epoch: n}
		tallies := []api.Tally{{Site: api.Site{Class: 0, Name: "get", At: 1}, Classes: []api.Line{line(n, n), line(0, n), line(1, 7)}}}
		cells := []api.Cell{{Site: api.Site{Class: 1, Name: "get", At: 1}, Epoch: n, Lines: []api.Line{line(1, n)}}}
		for _, s := range []api.Session{{}, {World: w, Tallies: tallies, Cells: cells}, {World: w, Saved: []byte("0 0 0")}, {World: w, Saved: right.Saved}, {World: right.World, Tallies: tallies, Cells: cells, Saved: right.Saved[:9]}} {
			for _, x := range append(memorySteps(), toMake("More", n, n), toInstall(n, "get", n, in(n, n)), toNew(n), toNew(0)) {
				Do(s, x)
				x.Class, x.Slots, x.Method = n, n, odd
				Do(Own(s), x)
			}
		}
	}
	right.Saved = right.Saved[:len(right.Saved)-1]
	if got, r := Do(right, toLoad); r != failed(api.ErrForm, 0) || !same(got, right) {
		t.Errorf("what was saved is no world: %v comes", r)
	}
}
