package run

import (
	"math"
	"math/rand"
	"reflect"
	"slices"
	"testing"

	"quickchange/api"
	"quickchange/class"
)

// asked is what look was asked.
type asked struct {
	site  api.Site
	class int
	name  string
}

// boxes: `sum` sends `get` to self and to an argument, and adds; `own` is of class 4, and sends `get` to self.
func boxes(t *testing.T) api.World {
	t.Helper()
	return world(t,
		meth{4, 0, 0, "get", []api.Instr{slot(0), back}},
		meth{5, 0, 1, "get", []api.Instr{push(7), set(0), temp(0), back}},
		meth{4, 1, 1, "sum", []api.Instr{self, send("get", 0), arg(0), send("get", 0), send("+", 1), set(0), temp(0), back}},
		meth{4, 0, 0, "own", []api.Instr{self, self, send("sum", 1), back}},
		meth{6, 0, 0, "none", []api.Instr{self, send("get", 0), back}})
}

// told has each thing that look is asked noted, and found as Find does.
func told(w api.World, l *[]asked) api.Look {
	return func(s api.Site, c int, name string) (int, int) {
		*l = append(*l, asked{s, c, name})
		return class.Find(w, c, name)
	}
}

func TestE3LookIsAsked(t *testing.T) {
	w := boxes(t)
	site := func(c int, name string, at int) api.Site { return api.Site{Class: c, Name: name, At: at} }
	for _, x := range []struct {
		name string
		c    api.Call
		fuel int
		want []asked
		ran  api.Ran
	}{
		{"the first call has no site", call(ref(pair), "get"), 9, nil, came(num(20), 1)},
		{"nor has one that nobody understands", call(ref(pair), "nobody"), 9, nil, failed(api.ErrSend, 0)},
		{"nor has a primitive", call(num(1), "+", num(2)), 9, nil, came(num(3), 1)},
		{"it is not asked of a wrong call", call(ref(9), "sum"), 9, nil, failed(api.ErrNone, 0)},
		{"each send", call(ref(pair), "sum", ref(triple)), 9, []asked{
			{site(4, "sum", 1), 4, "get"}, {site(4, "sum", 3), 5, "get"}, {site(4, "sum", 4), 3, "+"},
		}, came(num(27), 4)},
		{"the class of the method, not of the receiver", call(ref(triple), "own"), 9, []asked{
			{site(4, "own", 2), 5, "sum"}, {site(4, "sum", 1), 5, "get"}, {site(4, "sum", 3), 5, "get"}, {site(4, "sum", 4), 3, "+"},
		}, came(num(14), 5)},
		{"where nothing is found", call(ref(pair), "sum", isNil), 9, []asked{
			{site(4, "sum", 1), 4, "get"}, {site(4, "sum", 3), 1, "get"},
		}, failed(api.ErrSend, 2)},
		{"of an object without slots", call(ref(other), "none"), 9, []asked{{site(6, "none", 1), 6, "get"}}, failed(api.ErrSend, 1)},
		{"ahead of fuel", call(ref(pair), "sum", isTrue), 1, []asked{{site(4, "sum", 1), 4, "get"}}, failed(api.ErrFuel, 1)},
	} {
		var got []asked
		_, r := With(w, x.c, x.fuel, told(w, &got), None)
		if !slices.Equal(got, x.want) || r != x.ran {
			t.Errorf("%s: %v is asked, not %v; %v comes, not %v", x.name, got, x.want, r, x.ran)
		}
	}
}

func TestE3LookTells(t *testing.T) {
	w := boxes(t)
	at := func(c, method int) api.Look {
		return func(api.Site, int, string) (int, int) { return c, method }
	}
	get := func(c int) api.Look {
		return func(_ api.Site, r int, name string) (int, int) {
			if name == "get" {
				r = c
			}
			return class.Find(w, r, name)
		}
	}
	sum := call(ref(pair), "sum", ref(triple))
	for _, x := range []struct {
		name string
		look api.Look
		want api.Ran
	}{
		{"nothing", at(-1, -1), failed(api.ErrSend, 1)},
		{"a class, but no method", at(4, -1), failed(api.ErrSend, 1)},
		{"a method, but no class", at(-1, 0), failed(api.ErrSend, 1)},
		{"no such class", at(7, 0), failed(api.ErrSend, 1)},
		{"no such method", at(4, 3), failed(api.ErrSend, 1)},
		{"none at all", at(math.MaxInt, math.MaxInt), failed(api.ErrSend, 1)},
		{"of another number of arguments", at(4, 2), failed(api.ErrFit, 1)},
		{"always that of class 4", get(4), came(num(21), 4)},
		{"always that of class 5", get(5), came(num(14), 4)},
		{"always that of class 6", get(6), failed(api.ErrSend, 1)},
	} {
		if _, r := With(w, sum, 9, x.look, None); r != x.want {
			t.Errorf("%s: %v comes, not %v", x.name, r, x.want)
		}
	}
}

func TestE3None(t *testing.T) {
	for _, c := range []int{-1, 0, 4, math.MaxInt} {
		if f, ok := None(c, 0); ok || !reflect.DeepEqual(f, api.Fast{}) {
			t.Errorf("None(%d, 0) is %v, %v", c, f, ok)
		}
	}
}

// quickly tells code, of so many temporaries, of method n of class c.
func quickly(c, n, temps int, code ...api.Instr) api.Quick {
	return func(class, method int) (api.Fast, bool) {
		return api.Fast{Temps: temps, Code: code}, class == c && method == n
	}
}

func find(t *testing.T, w api.World, c int, name string) (int, int) {
	t.Helper()
	in, n := class.Find(w, c, name)
	if in != c {
		t.Fatalf("class %d has no method %s", c, name)
	}
	return in, n
}

func TestE3FastCodeRuns(t *testing.T) {
	w := boxes(t)
	c, get := find(t, w, 4, "get")
	_, sum := find(t, w, 4, "sum")
	nine := []api.Instr{push(9), set(2), temp(2), back}
	for _, x := range []struct {
		name  string
		quick api.Quick
		c     api.Call
		fuel  int
		want  api.Ran
	}{
		{"of the first call", quickly(c, get, 3, nine...), call(ref(pair), "get"), 1, came(num(9), 1)},
		{"of a send", quickly(c, get, 3, nine...), call(ref(pair), "sum", ref(pair)), 9, came(num(18), 4)},
		{"of that method alone", quickly(c, get, 3, nine...), call(ref(pair), "sum", ref(triple)), 9, came(num(16), 4)},
		{"temporaries are nil at first", quickly(c, sum, 40, temp(39), back), call(ref(pair), "sum", ref(pair)), 9, came(isNil, 1)},
		{"without temporaries", quickly(c, get, 0, push(3), back), call(ref(pair), "get"), 9, came(num(3), 1)},
		{"arguments are there", quickly(c, sum, 1, arg(0), back), call(ref(pair), "sum", ref(triple)), 9, came(ref(triple), 1)},
		{"self is there", quickly(c, get, 1, self, back), call(ref(triple), "own"), 9, came(num(14), 5)},
		{"it must fit", quickly(c, get, 3, nine...), call(ref(pair), "get", isNil), 9, failed(api.ErrFit, 0)},
		{"it needs fuel", quickly(c, get, 3, nine...), call(ref(pair), "get"), 0, failed(api.ErrFuel, 0)},
		{"it is for nobody", quickly(6, 9, 3, nine...), call(ref(pair), "get"), 9, came(num(20), 1)},
		{"it turns", quickly(c, get, 0, jump(0)), call(ref(pair), "get"), 9, failed(api.ErrStop, 1)},
	} {
		if _, r := With(w, x.c, x.fuel, finder(w), x.quick); r != x.want {
			t.Errorf("%s: %v comes, not %v", x.name, r, x.want)
		}
	}
}

func TestE3QuickIsAsked(t *testing.T) {
	w := boxes(t)
	_, sum := find(t, w, 4, "sum")
	_, four := find(t, w, 4, "get")
	_, five := find(t, w, 5, "get")
	var got [][2]int
	With(w, call(ref(pair), "sum", ref(triple)), 9, finder(w), func(c, method int) (api.Fast, bool) {
		got = append(got, [2]int{c, method})
		return api.Fast{}, false
	})
	if want := [][2]int{{4, sum}, {4, four}, {5, five}}; !slices.Equal(got, want) {
		t.Errorf("%v is asked, not %v", got, want)
	}
}

func TestE3WithIsAsPlain(t *testing.T) {
	w := boxes(t)
	values := []api.Value{isNil, isTrue, num(4), ref(pair), ref(triple), ref(other), ref(9)}
	for _, v := range values {
		for _, a := range values {
			for _, c := range []api.Call{call(v, "sum", a), call(v, "get"), call(v, "own"), call(v, "none"), call(v, "+", a), call(v, "")} {
				for _, fuel := range []int{-1, 0, 1, 2, 3, 4, 400} {
					x, want := ran(t, w, c, fuel)
					for _, look := range []api.Look{finder(w), nil} {
						for _, quick := range []api.Quick{None, nil} {
							if y, r := With(w, c, fuel, look, quick); r != want || !same(x, y) {
								t.Errorf("%v, fuel %d: %v comes, not %v", c, fuel, r, want)
							}
						}
					}
				}
			}
		}
	}
}

// guard is OpGuard.
func guard(class, args, at int) api.Instr {
	return api.Instr{Op: api.OpGuard, A: class, B: args, C: at}
}

func of(temp, slot int) api.Instr { return api.Instr{Op: api.OpOf, A: temp, B: slot} }

func to(temp, slot int) api.Instr { return api.Instr{Op: api.OpTo, A: temp, B: slot} }

// standIn: `m` has 100, and a temporary, 9; it sends `set` to its argument, with 5, and makes a sum of what comes of
// that, of the temporary, and of what it had. In its fast code class 4's `set` stands in for the message.
func standIn(t *testing.T) (api.World, api.Quick) {
	t.Helper()
	w := world(t,
		meth{4, 1, 1, "m", []api.Instr{push(9), set(0), push(100), arg(0), push(5), send("set", 1), temp(0), send("+", 1), send("+", 1), back}},
		meth{4, 1, 1, "set", []api.Instr{slot(0), arg(0), put(0), back}},
		meth{5, 1, 0, "set", []api.Instr{push(1000), back}},
		meth{4, 2, 0, "deep", []api.Instr{arg(1), push(1), send("<", 1), elseTo(8), self, arg(0), send("m", 1), back,
			self, arg(0), arg(1), push(1), send("-", 1), send("deep", 2), back}})
	plus := func(at int) api.Instr { return api.Instr{Op: api.OpSend, A: 1, C: at, Name: "+"} }
	c, m := find(t, w, 4, "m")
	return w, quickly(c, m, 4, push(9), set(0), push(100), arg(0), push(5),
		guard(4, 1, 5), count, set(2), set(1), null, set(3), of(1, 0), temp(2), to(1, 0), jump(15),
		temp(0), plus(7), plus(8), back)
}

func TestE3FastIsAsPlain(t *testing.T) {
	w, quick := standIn(t)
	for _, v := range []api.Value{ref(pair), ref(triple), ref(other), ref(object), isNil, isFalse, num(3)} {
		for fuel := range 8 {
			c := call(ref(pair), "m", v)
			x, want := ran(t, w, c, fuel)
			if y, r := With(w, c, fuel, finder(w), quick); r != want || !same(x, y) {
				t.Errorf("%v, fuel %d: %v comes, not %v", c, fuel, r, want)
			}
		}
		for _, deep := range []int{0, 1, api.MaxDeep - 3, api.MaxDeep - 2, api.MaxDeep - 1} {
			for _, fuel := range []int{2 * api.MaxDeep, 3*api.MaxDeep - 2, 3*api.MaxDeep - 1, 400} {
				c := call(ref(pair), "deep", v, num(deep))
				x, want := ran(t, w, c, fuel)
				if y, r := With(w, c, fuel, finder(w), quick); r != want || !same(x, y) {
					t.Errorf("%v, fuel %d: %v comes, not %v", c, fuel, r, want)
				}
			}
		}
	}
	for v, want := range map[api.Value]api.Ran{ref(pair): came(num(129), 4), ref(triple): came(num(1109), 4), isNil: failed(api.ErrSend, 1)} {
		if _, r := With(w, call(ref(pair), "m", v), 9, finder(w), quick); r != want {
			t.Errorf("%v comes of %v, not %v", r, v, want)
		}
	}
}

func TestE3SitesOfFastCodeAreThoseOfPlainCode(t *testing.T) {
	w, quick := standIn(t)
	for v, left := range map[api.Value]int{ref(pair): 1, ref(triple): 0} {
		var plain, fast []asked
		With(w, call(ref(pair), "m", v), 9, told(w, &plain), None)
		With(w, call(ref(pair), "m", v), 9, told(w, &fast), quick)
		if !slices.Equal(fast, plain[left:]) || len(fast) != 3-left {
			t.Errorf("%v is asked, not %v", fast, plain[left:])
		}
	}
}

func TestE3FastInstructions(t *testing.T) {
	w := one(t, 1, 0, push(1), back)
	for _, x := range []struct {
		name string
		code []api.Instr
		v    api.Value
		want api.Ran
	}{
		{"a slot of a temporary", []api.Instr{arg(0), set(0), of(0, 1), back}, ref(pair), came(ref(triple), 1)},
		{"no such slot", []api.Instr{arg(0), set(0), of(0, 2), back}, ref(pair), came(isNil, 1)},
		{"no such object", []api.Instr{arg(0), set(0), of(0, 0), back}, num(0), came(isNil, 1)},
		{"a slot is set", []api.Instr{arg(0), set(0), push(8), to(0, 2), of(0, 2), back}, ref(triple), came(num(8), 1)},
		{"it is not there", []api.Instr{arg(0), set(0), self, push(8), to(0, 2), back}, ref(pair), came(ref(pair), 1)},
		{"no object is there", []api.Instr{arg(0), set(0), push(8), to(0, 0), slot(0), back}, num(0), came(num(20), 1)},
		{"a send is counted", []api.Instr{count, count, self, back}, isNil, came(ref(pair), 3)},
		{"there is no fuel for it", []api.Instr{count, count, count, self, back}, isNil, failed(api.ErrFuel, 3)},
		{"it is of that class", []api.Instr{arg(0), push(2), guard(1, 1, 0), pop, back}, isNil, came(isNil, 1)},
		{"it is of the class below", []api.Instr{arg(0), guard(4, 0, 1), push(9), back}, ref(triple), came(ref(triple), 1)},
		{"there is no such kind", []api.Instr{in(22, 0), self, back}, isNil, failed(api.ErrKind, 1)},
	} {
		if _, r := With(w, call(ref(pair), "m", x.v), 3, finder(w), quickly(4, 0, 1, x.code...)); r != x.want {
			t.Errorf("%s: %v comes, not %v", x.name, r, x.want)
		}
	}
}

// anyCode has instructions of all kinds, and of none, with numbers that may be right or not.
func anyCode(r *rand.Rand) []api.Instr {
	numbers := []int{-1, 0, 0, 1, 2, 3, 4, 5, 6, 7, 41, math.MinInt, math.MaxInt}
	pick := func() int { return numbers[r.Intn(len(numbers))] }
	code := make([]api.Instr, r.Intn(12))
	for i := range code {
		code[i] = api.Instr{Op: r.Intn(24) - 1, A: pick(), B: pick(), C: pick(), Name: []string{"m", "+", "get", ""}[r.Intn(4)]}
	}
	return code
}

// TestZ1WhateverCodeThereIs: code that is not right fails, or something comes of it; but it ends, and does not panic.
func TestZ1WhateverCodeThereIs(t *testing.T) {
	r := rand.New(rand.NewSource(5))
	temps := []int{0, 3, -1, math.MinInt, math.MaxInt}
	for range 20000 {
		w := boxes(t)
		w.Classes[4].Methods[0].Code = anyCode(r)
		w.Classes[4].Methods[0].Temps = temps[r.Intn(len(temps))]
		quick := func(c, method int) (api.Fast, bool) {
			return api.Fast{Temps: temps[r.Intn(len(temps))], Code: anyCode(r)}, r.Intn(2) == 0
		}
		look := func(_ api.Site, c int, name string) (int, int) { return r.Intn(9) - 1, r.Intn(7) - 1 }
		before := class.Own(w)
		x, ran := With(w, call(ref(pair), "sum", ref(triple)), 50, look, quick)
		if !same(w, before) || ran.Err != api.OK && !same(x, before) || ran.Sends > 50 {
			t.Fatalf("%v comes, and %v", ran, x)
		}
	}
}
