package inline

import (
	"math/rand"
	"reflect"
	"strconv"
	"testing"

	"quickchange/api"
	"quickchange/class"
	"quickchange/code"
	"quickchange/run"
	"quickchange/wire"
)

func num(n int) api.Value { return api.Value{Kind: api.ValInt, N: n} }

func ref(n int) api.Value { return api.Value{Kind: api.ValRef, N: n} }

var (
	isNil   = api.Value{}
	isTrue  = api.Value{Kind: api.ValTrue}
	isFalse = api.Value{Kind: api.ValFalse}
)

// Numbers of the objects of world.
const (
	pair = iota
	triple
	other
	object
)

func call(self api.Value, name string, args ...api.Value) api.Call {
	return api.Call{Self: self, Name: name, Args: args}
}

func came(v api.Value, sends int) api.Ran { return api.Ran{Value: v, Sends: sends} }

func failed(err api.Errno, sends int) api.Ran { return api.Ran{Err: err, Sends: sends} }

// finder finds as Find does, and notes each site of which it is asked.
func finder(w api.World, asked *[]api.Site) api.Look {
	return func(s api.Site, c int, name string) (int, int) {
		*asked = append(*asked, s)
		return class.Find(w, c, name)
	}
}

// standing tells fast code of every method, as if each send had a receiver of class c.
func standing(w api.World, c int) api.Quick {
	return func(in, method int) (api.Fast, bool) { return Method(w, in, method, all(api.MaxCode, c)) }
}

// alike has it that a run by fast code is as a plain one, and is asked of no site of which that is not, in its order.
func alike(t *testing.T, name string, w api.World, c api.Call, fuel int, quick api.Quick) api.Ran {
	t.Helper()
	var plain, fast []api.Site
	x, want := run.With(w, c, fuel, finder(w, &plain), run.None)
	y, r := run.With(w, c, fuel, finder(w, &fast), quick)
	if r != want || !reflect.DeepEqual(class.Own(x), class.Own(y)) {
		t.Errorf("%s: %v, fuel %d: %v comes, and %v, not %v, and %v", name, c, fuel, r, y.Heap, want, x.Heap)
	}
	for _, s := range plain {
		if len(fast) > 0 && fast[0] == s {
			fast = fast[1:]
		}
	}
	if len(fast) > 0 {
		t.Errorf("%s: %v, fuel %d: %v is asked", name, c, fuel, fast)
	}
	return r
}

// told: `m` has 100, and a temporary, 9; it sends `set` to its argument, with 5, then adds up.
func told(t *testing.T) api.World {
	t.Helper()
	return world(t, append(leaves(),
		meth{4, 1, 1, "m", []api.Instr{push(9), set(0), push(100), arg(0), push(5), send("put", 1), temp(0), send("+", 1), send("+", 1), back}},
		meth{4, 1, 1, "put", []api.Instr{slot(0), arg(0), put(0), back}},
		meth{5, 1, 0, "put", []api.Instr{push(1000), arg(0), put(2), back}},
		meth{0, 1, 0, "put", []api.Instr{push(3), back}},
		meth{4, 2, 0, "deep", []api.Instr{arg(1), push(1), send("<", 1), elseTo(8), self, arg(0), send("m", 1), back,
			self, arg(0), arg(1), push(1), send("-", 1), send("deep", 2), back}})...)
}

func TestJ3StandsInOrStepsBack(t *testing.T) {
	w := told(t)
	c, m := class.Find(w, 4, "m")
	for _, x := range []struct {
		name  string
		class int
		v     api.Value
		asked int
		want  api.Ran
	}{
		{"it stands in", 4, ref(pair), 2, came(num(129), 4)},
		{"another one comes, of a class below", 4, ref(triple), 3, came(num(1109), 4)},
		{"another one comes, of none of these", 4, ref(other), 3, came(num(112), 4)},
		{"another one comes, that is no object", 4, isNil, 3, came(num(112), 4)},
		{"it stands in for a class below", 5, ref(triple), 2, came(num(1109), 4)},
		{"another one comes, of a class above", 5, ref(pair), 3, came(num(129), 4)},
		{"it stands in for nil", 1, isNil, 2, came(num(112), 4)},
		{"it stands in for true", 2, isTrue, 2, came(num(112), 4)},
		{"it stands in for a number", 3, num(8), 2, came(num(112), 4)},
		{"a number comes", 2, num(8), 3, came(num(112), 4)},
	} {
		f, ok := Method(w, c, m, all(6, x.class))
		quick := func(class, method int) (api.Fast, bool) { return f, ok && class == c && method == m }
		var asked []api.Site
		_, r := run.With(w, call(ref(pair), "m", x.v), 9, finder(w, &asked), quick)
		if !ok || r != x.want || len(asked) != x.asked {
			t.Errorf("%s: %v comes, and is asked %v", x.name, r, asked)
		}
		for fuel := range 9 {
			alike(t, x.name, w, call(ref(pair), "m", x.v), fuel, quick)
		}
	}
}

func TestJ3FuelAndDepth(t *testing.T) {
	w := told(t)
	for _, v := range []api.Value{ref(pair), ref(triple), ref(other), isFalse} {
		for deep := api.MaxDeep - 4; deep < api.MaxDeep+1; deep++ {
			for fuel := 2 * api.MaxDeep; fuel < 3*api.MaxDeep+8; fuel++ {
				alike(t, "deep", w, call(ref(pair), "deep", v, num(deep)), fuel, standing(w, 4))
			}
		}
	}
	// `deep` n is n calls and one, `m` one more, and the piece in that would be the next one.
	for _, x := range []struct {
		deep, fuel int
		want       api.Errno
	}{
		{api.MaxDeep - 3, 400, api.OK},
		{api.MaxDeep - 2, 400, api.ErrDeep},
		{api.MaxDeep - 2, 3*(api.MaxDeep-2) + 3, api.ErrFuel},
		{api.MaxDeep - 2, 3*(api.MaxDeep-2) + 4, api.ErrDeep},
	} {
		c := call(ref(pair), "deep", ref(pair), num(x.deep))
		if r := alike(t, "deep", w, c, x.fuel, standing(w, 4)); r.Err != x.want {
			t.Errorf("%d deep, fuel %d: %v comes", x.deep, x.fuel, r)
		}
	}
}

func TestJ3TurnsAndTemporaries(t *testing.T) {
	w := world(t,
		meth{4, 0, 0, "get", []api.Instr{slot(0), back}},
		meth{5, 0, 0, "get", []api.Instr{push(7), back}},
		meth{4, 0, 1, "once", []api.Instr{temp(0), push(1), set(0), back}},
		meth{4, 1, 2, "last", []api.Instr{push(0), set(0), temp(0), arg(0), send("<", 1), elseTo(14), self, send("once", 0), set(1),
			temp(0), push(1), send("+", 1), set(0), jump(2), temp(1), back}},
		meth{4, 1, 0, "turn", []api.Instr{arg(0), elseTo(0), self, back}},
		meth{4, 1, 0, "turns", []api.Instr{self, arg(0), send("turn", 1), back}},
		meth{4, 0, 0, "for", []api.Instr{self, send("get", 0), pop, jump(0)}})
	quick := standing(w, 4)
	if r := alike(t, "temporaries are nil each time", w, call(ref(pair), "last", num(3)), 400, quick); r != came(isNil, 11) {
		t.Errorf("%v comes", r)
	}
	for _, v := range []api.Value{isTrue, isFalse, isNil, num(0)} {
		alike(t, "a piece that turns", w, call(ref(pair), "turns", v), 9, quick)
	}
	if r := alike(t, "for ever", w, call(ref(pair), "for"), 400, quick); r != failed(api.ErrStop, 302) {
		t.Errorf("%v comes", r)
	}
	alike(t, "until there is no fuel", w, call(ref(pair), "for"), 250, quick)
	alike(t, "for ever, of another one", w, call(ref(triple), "for"), 400, quick)
}

func TestJ3Instructions(t *testing.T) {
	w := world(t, meth{4, 1, 2, "m", []api.Instr{temp(0), temp(1), send("+", 1), back, pop, back}})
	for _, x := range []struct {
		name string
		code []api.Instr
		v    api.Value
		want api.Ran
	}{
		{"a slot of a temporary", []api.Instr{arg(0), set(2), of(2, 1), back}, ref(pair), came(ref(triple), 1)},
		{"the last slot", []api.Instr{arg(0), set(2), of(2, 2), back}, ref(triple), came(isTrue, 1)},
		{"no such slot", []api.Instr{arg(0), set(2), of(2, 2), back}, ref(pair), came(isNil, 1)},
		{"no object", []api.Instr{arg(0), set(2), of(2, 0), back}, num(0), came(isNil, 1)},
		{"a slot is set", []api.Instr{arg(0), set(2), push(8), to(2, 2), of(2, 2), back}, ref(triple), came(num(8), 1)},
		{"what is set goes", []api.Instr{arg(0), set(2), push(7), push(8), to(2, 0), back}, ref(triple), came(num(7), 1)},
		{"no such slot to set", []api.Instr{arg(0), set(2), self, push(8), to(2, 2), back}, ref(pair), came(ref(pair), 1)},
		{"no object to set", []api.Instr{arg(0), set(2), push(8), to(2, 0), slot(0), back}, num(0), came(num(20), 1)},
		{"a send is counted", []api.Instr{count, count, self, back}, isNil, came(ref(pair), 3)},
		{"no fuel", []api.Instr{count, count, count, count, self, back}, isNil, failed(api.ErrFuel, 4)},
		{"it is of the class", []api.Instr{self, arg(0), push(1), push(2), guard(1, 2, 0), pop, pop, pop, back}, isNil, came(ref(pair), 1)},
		{"it is of another class", []api.Instr{self, arg(0), guard(0, 0, 4), push(1), back}, isNil, came(ref(pair), 1)},
		{"it is of a class below", []api.Instr{self, arg(0), guard(4, 0, 4), push(1), back}, ref(triple), came(ref(pair), 1)},
		{"temporaries go on", []api.Instr{push(30), set(0), push(4), set(1), push(99), set(2), guard(2, 0, 0)}, isNil, came(num(34), 2)},
	} {
		quick := func(c, method int) (api.Fast, bool) { return api.Fast{Temps: 3, Code: x.code}, c == 4 }
		var asked []api.Site
		if _, r := run.With(w, call(ref(pair), "m", x.v), 4, finder(w, &asked), quick); r != x.want {
			t.Errorf("%s: %v comes, not %v", x.name, r, x.want)
		}
	}
}

// author writes methods that are right, at random.
type author struct {
	*rand.Rand
	args, temps, slots int
	leaf               bool
	code               []api.Instr
	height             int
}

func (a *author) add(leaves int, l ...api.Instr) {
	a.code = append(a.code, l...)
	a.height += leaves
}

// pushes is an instruction that pushes something.
func (a *author) pushes() api.Instr {
	l := []api.Instr{self, self, push(a.Intn(9) - 3), null, no, yes}
	for n := range a.args {
		l = append(l, arg(n))
	}
	for n := range a.temps {
		l = append(l, temp(n))
	}
	for n := range a.slots {
		l = append(l, slot(n))
	}
	if !a.leaf {
		l = append(l, fresh([]int{0, 4, 5, 6}[a.Intn(4)]))
	}
	return l[a.Intn(len(l))]
}

// condition pushes true or false, most of the time.
func (a *author) condition() api.Instr {
	if a.Intn(8) == 0 {
		return a.pushes()
	}
	return []api.Instr{yes, no}[a.Intn(2)]
}

// drops has what is on top go somewhere.
func (a *author) drops() {
	switch {
	case a.temps > 0 && a.Intn(2) == 0:
		a.add(-1, set(a.Intn(a.temps)))
	case a.slots > 0 && a.Intn(2) == 0:
		a.add(-1, put(a.Intn(a.slots)))
	default:
		a.add(-1, pop)
	}
}

func (a *author) more(names []string) {
	at := len(a.code)
	switch n := a.Intn(8); {
	case n == 0 && a.height < 5:
		a.add(1, a.condition(), elseTo(at+4), a.pushes(), jump(at+5), a.pushes())
	case n == 1 && a.height < 5:
		// Either to where it began, at the same height, or on.
		a.add(0, a.condition(), elseTo([]int{at, at + 2}[a.Intn(2)]))
	case n == 2 && a.height == 0:
		a.add(0, a.condition(), elseTo(at+4), a.pushes(), back)
	case n < 5 && !a.leaf && a.height > 0:
		args := a.Intn(min(a.height, 3))
		a.add(-args, api.Instr{Op: api.OpSend, A: args, Name: names[a.Intn(len(names))]})
	case n == 5 && a.height > 0:
		a.drops()
	case n == 6 && a.height > 0 && a.height < 6:
		a.add(1, dup)
	case a.height < 6:
		a.add(1, a.pushes())
	}
}

func (a *author) method(name string, names []string) api.Method {
	for range 2 + a.Intn(14) {
		a.more(names)
	}
	if a.height == 0 {
		a.add(1, a.pushes())
	}
	for a.height > 1 {
		a.drops()
	}
	a.add(-1, back)
	return api.Method{Name: name, Args: a.args, Temps: a.temps, Code: a.code}
}

// randomWorld has methods of all classes: leaves, and others that send them.
func randomWorld(t *testing.T, r *rand.Rand) api.World {
	t.Helper()
	w := world(t)
	names := []string{"a", "b", "c", "d", "+", "<"}
	for c := range w.Classes {
		for n := range 4 {
			if r.Intn(3) == 0 {
				continue
			}
			a := author{Rand: r, args: n % 3, temps: r.Intn(4), slots: class.Slots(w, c), leaf: r.Intn(2) == 0}
			m := a.method(names[n], names)
			if fault := code.Check(w, c, m); fault.Err != api.OK {
				continue
			}
			if x, err := class.Install(w, c, m); err == api.OK {
				w = x
			}
		}
	}
	if err := wire.Right(w); err != api.OK {
		t.Fatalf("the world is not right: error %d", err)
	}
	return w
}

// anyFast is fast code of all methods, as if each send had a receiver of some class.
func anyFast(w api.World, r *rand.Rand) (api.Quick, int) {
	found := map[[2]int]api.Fast{}
	pieces := 0
	for c := range w.Classes {
		for n, m := range w.Classes[c].Methods {
			sites := make([]int, len(m.Code))
			for i := range sites {
				sites[i] = r.Intn(9) - 1
			}
			if f, ok := Method(w, c, n, sites); ok {
				found[[2]int{c, n}] = f
				pieces += len(guards(f))
			}
		}
	}
	return func(c, n int) (api.Fast, bool) {
		f, ok := found[[2]int{c, n}]
		return f, ok
	}, pieces
}

// TestJ3WhoeverStandsInDoesTheSame holds runs by fast code against plain ones, in worlds at random.
func TestJ3WhoeverStandsInDoesTheSame(t *testing.T) {
	values := []api.Value{isNil, isTrue, num(2), ref(pair), ref(triple), ref(other), ref(object)}
	pieces, sends := 0, 0
	for seed := range 400 {
		r := rand.New(rand.NewSource(int64(seed)))
		w := randomWorld(t, r)
		quick, some := anyFast(w, r)
		pieces += some
		for range 60 {
			n := r.Intn(4)
			c := call(values[r.Intn(len(values))], []string{"a", "b", "c", "d"}[n])
			for range n % 3 {
				c.Args = append(c.Args, values[r.Intn(len(values))])
			}
			fuel := []int{r.Intn(12), 400}[r.Intn(2)]
			sends += alike(t, "seed "+strconv.Itoa(seed), w, c, fuel, quick).Sends
		}
	}
	if pieces < 400 || sends < 20000 {
		t.Errorf("%d pieces, and %d sends, are too few to tell anything", pieces, sends)
	}
}
