package fast

import (
	"math"
	"math/rand"
	"reflect"
	"slices"
	"testing"

	"quickchange/api"
	"quickchange/cached"
	"quickchange/class"
	"quickchange/code"
	"quickchange/wire"
)

// author writes methods that are right, at random.
type author struct {
	*rand.Rand
	args, temps, slots int
	leaf               bool
	code               []api.Instr
	height             int
}

func (a *author) add(leaves int, l ...api.Instr) {
	a.code = append(a.code, l...)
	a.height += leaves
}

// pushes is an instruction that pushes something.
func (a *author) pushes() api.Instr {
	l := []api.Instr{self, self, push(a.Intn(9) - 3), null, no, yes}
	for n := range a.args {
		l = append(l, arg(n))
	}
	for n := range a.temps {
		l = append(l, temp(n))
	}
	for n := range a.slots {
		l = append(l, slot(n))
	}
	if !a.leaf {
		l = append(l, fresh([]int{0, 4, 5, 6}[a.Intn(4)]))
	}
	return l[a.Intn(len(l))]
}

// condition pushes true or false, most of the time.
func (a *author) condition() api.Instr {
	if a.Intn(8) == 0 {
		return a.pushes()
	}
	return []api.Instr{yes, no}[a.Intn(2)]
}

// drops has what is on top go somewhere.
func (a *author) drops() {
	switch {
	case a.temps > 0 && a.Intn(2) == 0:
		a.add(-1, set(a.Intn(a.temps)))
	case a.slots > 0 && a.Intn(2) == 0:
		a.add(-1, put(a.Intn(a.slots)))
	default:
		a.add(-1, pop)
	}
}

// name is one of methods of so many arguments, most of the time.
func (a *author) name(args int) string {
	if a.Intn(12) == 0 {
		args = a.Intn(3)
	}
	l := [][]string{{"a", "d"}, {"b", "+", "<"}, {"c"}}[args]
	return l[a.Intn(len(l))]
}

func (a *author) more() {
	at := len(a.code)
	switch n := a.Intn(8); {
	case n == 0 && a.height < 5:
		a.add(1, a.condition(), elseTo(at+4), a.pushes(), jump(at+5), a.pushes())
	case n == 1 && a.height < 5:
		// Either to where it began, at the same height, or on.
		a.add(0, a.condition(), elseTo([]int{at, at + 2}[a.Intn(2)]))
	case n < 5 && !a.leaf && a.height > 0:
		args := a.Intn(min(a.height, 3))
		a.add(-args, send(a.name(args), args))
	case n == 5 && a.height > 0:
		a.drops()
	case n == 6 && a.height > 0 && a.height < 6:
		a.add(1, dup)
	case a.height < 6:
		a.add(1, a.pushes())
	}
}

func (a *author) method(name string) api.Method {
	for range 2 + a.Intn(14) {
		a.more()
	}
	if a.height == 0 {
		a.add(1, a.pushes())
	}
	for a.height > 1 {
		a.drops()
	}
	a.add(-1, back)
	return api.Method{Name: name, Args: a.args, Temps: a.temps, Code: a.code}
}

// anyWorld has methods of all classes: leaves, and others that send them.
func anyWorld(t *testing.T, r *rand.Rand) api.World {
	t.Helper()
	w := bare()
	for c := range w.Classes {
		for n, name := range []string{"a", "b", "c", "d"} {
			a := author{Rand: r, args: n % 3, temps: r.Intn(4), slots: class.Slots(w, c), leaf: r.Intn(2) == 0}
			m := a.method(name)
			if r.Intn(3) == 0 || code.Check(w, c, m).Err != api.OK {
				continue
			}
			if x, err := class.Install(w, c, m); err == api.OK {
				w = x
			}
		}
	}
	if err := wire.Right(w); err != api.OK {
		t.Fatalf("the world is not right: error %d", err)
	}
	return w
}

func anyCall(r *rand.Rand) api.Call {
	values := []api.Value{isNil, isTrue, num(2), ref(pair), ref(pair), ref(triple), ref(other), ref(object)}
	n := r.Intn(4)
	c := call(values[r.Intn(len(values))], []string{"a", "b", "c", "d"}[n])
	for range n % 3 {
		c.Args = append(c.Args, values[r.Intn(len(values))])
	}
	return c
}

// TestK1FastOrPlain holds runs by fast code against plain ones, in worlds at random, in which receivers were counted.
func TestK1FastOrPlain(t *testing.T) {
	codes, sends := 0, 0
	for seed := range 300 {
		r := rand.New(rand.NewSource(int64(seed)))
		w := anyWorld(t, r)
		var tallies []api.Tally
		for range 30 {
			tallies = cached.Run(w, anyCall(r), api.MaxFuel, nil, tallies).Tallies
		}
		l := All(w, tallies)
		codes += len(l)
		for range 40 {
			sends += alike(t, w, anyCall(r), []int{r.Intn(12), api.MaxFuel}[r.Intn(2)], l).Sends
		}
	}
	if codes < 300 || sends < 10000 {
		t.Errorf("%d methods, and %d sends, are too few to tell anything", codes, sends)
	}
}

func copies(l []api.Fast) []api.Fast {
	out := slices.Clone(l)
	for i, f := range out {
		out[i].Code = slices.Clone(f.Code)
	}
	return out
}

// spoil has nothing left of what l has, its spare room too.
func spoil(l []api.Fast) {
	l = l[:cap(l)]
	for i, f := range l {
		code := f.Code[:cap(f.Code)]
		for at := range code {
			code[at] = in(77, 77)
		}
		l[i] = api.Fast{Class: 77}
	}
}

func spoilWorld(w api.World) {
	for _, c := range w.Classes {
		for _, m := range c.Methods {
			clear(m.Code)
		}
		clear(c.Methods)
	}
	for _, o := range w.Heap {
		clear(o.Slots)
	}
	clear(w.Classes)
	clear(w.Heap)
}

// What is handed in is only read, nothing of it is kept, and what is answered is the caller's.
func TestK1AllMemory(t *testing.T) {
	w, tallies := world(t), counted()
	before := class.Own(w)
	first := All(w, tallies)
	second := All(w, tallies)
	want := copies(second)
	spoil(first)
	if !reflect.DeepEqual(second, want) {
		t.Error("two answers share memory")
	}
	if !reflect.DeepEqual(class.Own(w), before) || !reflect.DeepEqual(tallies, counted()) {
		t.Error("what was handed in is changed")
	}
	spoilWorld(w)
	for _, x := range tallies {
		clear(x.Classes)
	}
	clear(tallies)
	if !reflect.DeepEqual(second, want) {
		t.Error("something of what was handed in is kept")
	}
	for i := range second {
		spoil(second[i : i+1 : i+1])
		if i+1 < len(second) && !reflect.DeepEqual(second[i+1:], want[i+1:]) {
			t.Fatalf("%v shares memory with what comes behind it", want[i].Name)
		}
	}
}

func TestK1RunMemory(t *testing.T) {
	for _, c := range []api.Call{call(ref(pair), "get"), call(ref(pair), "keep", num(6)), call(ref(pair), "sum", ref(object)), call(ref(pair), "made"), call(ref(9), "")} {
		w := world(t)
		l := All(w, counted())
		spare := append(l, answers(4, "get", w.Epoch, 90))
		before, list, args := class.Own(w), copies(spare), slices.Clone(c.Args)
		x, first := Run(w, c, 9, spare[:len(l):len(spare)])
		y, second := Run(w, c, 9, spare[:len(l):len(spare)])
		if first != second || !reflect.DeepEqual(x, y) {
			t.Errorf("%v: %v comes, then %v", c, first, second)
		}
		if first != alike(t, w, c, 9, l) {
			t.Errorf("%v: %v comes of the spare room", c, first)
		}
		if !reflect.DeepEqual(class.Own(w), before) || !reflect.DeepEqual(spare, list) || !slices.Equal(c.Args, args) {
			t.Errorf("%v: what was handed in is changed", c)
		}
		want := class.Own(y)
		spoilWorld(x)
		spoilWorld(w)
		spoil(spare)
		if !reflect.DeepEqual(class.Own(y), want) {
			t.Errorf("%v: the world that comes is not the caller's", c)
		}
	}
}

// Of worlds, tallies and fast code that are not right: no call panics, and all end.
func TestK1WrongOnes(t *testing.T) {
	numbers := []int{-1, 0, 1, 5, 41, math.MinInt, math.MaxInt}
	for _, n := range numbers {
		odd := api.Method{Name: "odd", Args: n, Temps: n, Code: []api.Instr{arg(n), send("leaf", n), jump(n), elseTo(n), {Op: n}, fresh(n), back}}
		leaf := api.Method{Name: "leaf", Args: n, Temps: n, Code: []api.Instr{{Op: 99}, temp(n), set(n), slot(n), put(n), back}}
		tallies := []api.Tally{{}, at(n, "odd", 1, n, n), at(0, "odd", 1, 0, n), at(0, "odd", 1, 1, 5), at(1, "odd", 1, 1, 5)}
		for _, w := range []api.World{
			{Classes: []api.Class{{Super: 0, Slots: n, Methods: []api.Method{leaf, odd}}}, Heap: []api.Object{{Class: 0}, {Class: n}}},
			{Classes: []api.Class{{Super: 1}, {Super: 0, Methods: []api.Method{odd, leaf, odd}}, {Super: n}}, Heap: []api.Object{{Class: 1}}, Epoch: n},
		} {
			l := All(w, tallies)
			for _, op := range []int{n, api.OpSend, api.OpJump, api.OpElse, api.OpGuard, api.OpOf, api.OpTo, api.OpCount} {
				x := api.Instr{Op: op, A: n, B: n, C: n, Name: "odd"}
				l = append(l, api.Fast{Class: n, Name: "odd", Epoch: w.Epoch, Temps: n, Code: []api.Instr{x, x, x}})
				for c := range w.Classes {
					one := api.Fast{Class: c, Name: "odd", Epoch: w.Epoch, Temps: n, Code: []api.Instr{self, x, yes, x, no, x, jump(0)}}
					for args := range 5 {
						Run(w, call(ref(0), "odd", make([]api.Value, args)...), api.MaxFuel, []api.Fast{one})
						Run(w, call(ref(0), "odd", make([]api.Value, args)...), api.MaxFuel, l)
					}
				}
			}
		}
	}
}
