package choose

import (
	"math"
	"reflect"
	"slices"
	"testing"

	"quickchange/api"
	"quickchange/cached"
	"quickchange/class"
	"quickchange/tally"
	"quickchange/wire"
)

func in(op, a int) api.Instr { return api.Instr{Op: op, A: a} }

func send(name string, args int) api.Instr { return api.Instr{Op: api.OpSend, A: args, Name: name} }

var (
	self = in(api.OpSelf, 0)
	pop  = in(api.OpPop, 0)
	back = in(api.OpBack, 0)
)

func arg(n int) api.Instr   { return in(api.OpArg, n) }
func slot(n int) api.Instr  { return in(api.OpSlot, n) }
func put(n int) api.Instr   { return in(api.OpPut, n) }
func push(n int) api.Instr  { return in(api.OpInt, n) }
func fresh(c int) api.Instr { return in(api.OpNew, c) }

func line(c, found int) api.Line { return api.Line{Class: c, Found: found} }

func count(s api.Site, lines ...api.Line) api.Tally { return api.Tally{Site: s, Classes: lines} }

func at(name string, n int) api.Site { return api.Site{Class: 4, Name: name, At: n} }

var here = at("sum", 1)

// meth is a method of a class.
type meth struct {
	class, args int
	name        string
	code        []api.Instr
}

// world has class 4, of one slot, class 5 in it, with a `get` and a `hard` of its own, class 6 in that, whose `get` is
// no leaf, and class 7, whose `get` has an argument; `none` is a leaf that all understand.
func world(t *testing.T) api.World {
	t.Helper()
	w := class.New()
	for _, x := range []api.Class{{Name: "Box", Slots: 1}, {Name: "Odd", Super: 4}, {Name: "Last", Super: 5}, {Name: "Other"}} {
		w, _, _ = class.Make(w, x.Name, x.Super, x.Slots)
	}
	for _, x := range []meth{
		{0, 0, "none", []api.Instr{self, back}},
		{3, 0, "next", []api.Instr{self, push(1), send("+", 1), back}},
		{3, 0, "zero", []api.Instr{push(0), back}},
		{4, 0, "get", []api.Instr{slot(0), back}},
		{5, 0, "get", []api.Instr{push(7), back}},
		{6, 0, "get", []api.Instr{self, send("none", 0), back}},
		{7, 1, "get", []api.Instr{arg(0), back}},
		{4, 1, "set", []api.Instr{arg(0), put(0), self, back}},
		{4, 0, "hard", []api.Instr{push(1), back}},
		{5, 0, "hard", []api.Instr{fresh(4), back}},
		{4, 1, "sum", []api.Instr{self, send("get", 0), arg(0), send("get", 0), send("+", 1), back}},
		{4, 2, "both", []api.Instr{arg(0), arg(1), send("set", 1), send("get", 0), pop, self, send("none", 0), back}},
	} {
		var err api.Errno
		if w, err = class.Install(w, x.class, api.Method{Name: x.name, Args: x.args, Code: x.code}); err != api.OK {
			t.Fatalf("Install %s: error %d", x.name, err)
		}
	}
	w.Heap = []api.Object{{Class: 4, Slots: []api.Value{{}}}, {Class: 5, Slots: []api.Value{{}}}}
	if err := wire.Right(w); err != api.OK {
		t.Fatalf("the world is not right: error %d", err)
	}
	return w
}

func numberOf(w api.World, c int, name string) int {
	return slices.IndexFunc(w.Classes[c].Methods, func(m api.Method) bool { return m.Name == name })
}

func TestI1Leaf(t *testing.T) {
	for _, x := range []struct {
		what string
		m    api.Method
		want bool
	}{
		{"no code", api.Method{}, true},
		{"an empty list", api.Method{Name: "m", Args: 4, Temps: 6, Code: []api.Instr{}}, true},
		{"a getter", api.Method{Code: []api.Instr{slot(0), back}}, true},
		{"a setter", api.Method{Code: []api.Instr{arg(0), put(0), self, back}}, true},
		{"a send alone", api.Method{Code: []api.Instr{send("x", 0)}}, false},
		{"a send first", api.Method{Code: []api.Instr{send("x", 0), back}}, false},
		{"a send last", api.Method{Code: []api.Instr{self, back, send("x", 0)}}, false},
		{"a send without a name", api.Method{Code: []api.Instr{{Op: api.OpSend}, back}}, false},
		{"an object first", api.Method{Code: []api.Instr{fresh(4), back}}, false},
		{"an object last", api.Method{Code: []api.Instr{self, back, fresh(0)}}, false},
		{"both", api.Method{Code: []api.Instr{fresh(4), send("x", 0), back}}, false},
		{"a primitive", api.Method{Args: 1, Prim: api.PrimAdd}, false},
		{"the last primitive", api.Method{Args: 1, Prim: api.PrimSame}, false},
		{"a primitive with code", api.Method{Prim: api.PrimLess, Code: []api.Instr{self, back}}, false},
		{"a primitive that sends", api.Method{Prim: api.PrimMul, Code: []api.Instr{self, send("x", 0), back}}, false},
		{"fields of others", api.Method{Code: []api.Instr{{Op: api.OpSelf, A: api.OpSend, B: api.OpNew, C: api.OpSend, Name: "x"}, back}}, true},
		{"spare room that sends", api.Method{Code: []api.Instr{self, back, send("x", 0), fresh(4)}[:2]}, true},
	} {
		if got := Leaf(x.m); got != x.want {
			t.Errorf("%s: %v", x.what, got)
		}
	}
}

func TestI1LeafOfEachOp(t *testing.T) {
	for op := -3; op < 30; op++ {
		want := op != api.OpSend && op != api.OpNew
		if got := Leaf(api.Method{Code: []api.Instr{self, in(op, 0), back}}); got != want {
			t.Errorf("with op %d: %v", op, got)
		}
	}
}

func TestI1SiteByNumbers(t *testing.T) {
	w := world(t)
	for _, x := range []struct {
		what string
		l    []api.Tally
		want int
	}{
		{"no tallies", nil, -1},
		{"an empty list", []api.Tally{}, -1},
		{"a tally without lines", []api.Tally{count(here)}, -1},
		{"lines of none", []api.Tally{count(here, line(4, 0), line(5, 0))}, -1},
		{"one", []api.Tally{count(here, line(4, 1))}, -1},
		{"two", []api.Tally{count(here, line(4, 2))}, 4},
		{"one each", []api.Tally{count(here, line(4, 1), line(5, 1))}, -1},
		{"two of three", []api.Tally{count(here, line(4, 2), line(5, 1))}, 4},
		{"two of three, the other way", []api.Tally{count(here, line(4, 1), line(5, 2))}, 5},
		{"half of four", []api.Tally{count(here, line(4, 2), line(5, 2))}, -1},
		{"half of four, of three classes", []api.Tally{count(here, line(4, 2), line(5, 1), line(6, 1))}, -1},
		{"two of five", []api.Tally{count(here, line(4, 2), line(5, 1), line(6, 1), line(7, 1))}, -1},
		{"three of five", []api.Tally{count(here, line(5, 1), line(4, 3), line(6, 1))}, 4},
		{"half of six", []api.Tally{count(here, line(4, 3), line(5, 2), line(6, 1))}, -1},
		{"a half, and one", []api.Tally{count(here, line(4, 50), line(5, 51))}, 5},
		{"half of a hundred", []api.Tally{count(here, line(4, 50), line(5, 50))}, -1},
		{"others count too, that do not understand it", []api.Tally{count(here, line(4, 2), line(3, 2))}, -1},
		{"all tallies of the site", []api.Tally{count(here, line(4, 3)), count(here, line(5, 3))}, -1},
		{"the greatest of all tallies", []api.Tally{count(here, line(4, 1)), count(here, line(5, 2))}, 5},
		{"a class's lines are not one", []api.Tally{count(here, line(4, 1)), count(here, line(4, 1))}, -1},
		{"nor in one tally", []api.Tally{count(here, line(4, 2), line(4, 2))}, -1},
		{"other sites tell nothing", []api.Tally{count(at("sum", 3), line(4, 9)), count(api.Site{Class: 5, Name: "sum", At: 1}, line(4, 9)), count(at("get", 1), line(4, 9))}, -1},
		{"nor do they take anything", []api.Tally{count(at("sum", 3), line(5, 9)), count(here, line(4, 2)), count(at("get", 1), line(5, 9))}, 4},
		{"very many", []api.Tally{count(here, line(4, math.MaxInt))}, 4},
		{"very many, and another", []api.Tally{count(here, line(4, math.MaxInt-1), line(5, 1))}, 4},
		{"just half of very many", []api.Tally{count(here, line(4, math.MaxInt/2), line(5, math.MaxInt/2))}, -1},
		{"just above it", []api.Tally{count(here, line(4, math.MaxInt/2), line(5, math.MaxInt/2+1))}, 5},
		{"below none", []api.Tally{count(here, line(4, -5), line(5, math.MinInt))}, -1},
	} {
		if got := Site(w, x.l, here, "get", 0); got != x.want {
			t.Errorf("%s: %d, not %d", x.what, got, x.want)
		}
	}
}

func TestI1SiteByWhatIsFound(t *testing.T) {
	w := world(t)
	for _, x := range []struct {
		what  string
		class int
		name  string
		args  int
		want  int
	}{
		{"a getter", 4, "get", 0, 4},
		{"one of its own", 5, "get", 0, 5},
		{"one from above: the receiver's class comes", 5, "set", 1, 5},
		{"from further above", 6, "set", 1, 6},
		{"of all", 6, "none", 0, 6},
		{"a number's", 3, "zero", 0, 3},
		{"nil's, from above", 1, "none", 0, 1},
		{"a class of number 0", 0, "none", 0, 0},
		{"one that sends hides a leaf above it", 6, "get", 0, -1},
		{"a leaf, above one that makes an object", 4, "hard", 0, 4},
		{"one that makes an object", 5, "hard", 0, -1},
		{"from above", 6, "hard", 0, -1},
		{"it sends", 4, "sum", 1, -1},
		{"a number's, that sends", 3, "next", 0, -1},
		{"a primitive", 3, "+", 1, -1},
		{"too many arguments", 4, "get", 1, -1},
		{"too few", 4, "set", 0, -1},
		{"another class's would fit", 7, "get", 0, -1},
		{"it does", 7, "get", 1, 7},
		{"arguments below 0", 4, "get", -1, -1},
		{"far too many", 4, "get", math.MaxInt, -1},
		{"nobody understands it", 4, "nobody", 0, -1},
		{"only those below", 0, "get", 0, -1},
		{"no name", 4, "", 0, -1},
		{"another name", 4, "Get", 0, -1},
		{"no class", -1, "none", 0, -1},
		{"no class any more", 8, "none", 0, -1},
		{"far off", math.MaxInt, "none", 0, -1},
		{"far below", math.MinInt, "none", 0, -1},
	} {
		for _, s := range []api.Site{here, {}, {Class: -7, Name: "\x00", At: math.MinInt}} {
			if got := Site(w, []api.Tally{count(s, line(x.class, 2))}, s, x.name, x.args); got != x.want {
				t.Errorf("%s, at %v: %d, not %d", x.what, s, got, x.want)
			}
		}
	}
}

// The greatest number alone is asked of: another class is not worth it because that one's method is no leaf.
func TestI1SiteAsksNoOther(t *testing.T) {
	w := world(t)
	if got := Site(w, []api.Tally{count(here, line(6, 5), line(4, 4))}, here, "get", 0); got != -1 {
		t.Errorf("%d comes", got)
	}
	if got := Site(w, []api.Tally{count(here, line(9, 5), line(4, 4))}, here, "get", 0); got != -1 {
		t.Errorf("%d comes", got)
	}
}

// oracle is the promise, of few receivers, told in another way: by the receivers one by one.
func oracle(w api.World, receivers []int, name string, args int) int {
	for c := range w.Classes {
		own, others := 0, 0
		for _, r := range receivers {
			if r == c {
				own++
			} else {
				others++
			}
		}
		found, number := class.Find(w, c, name)
		if own+others < 2 || own <= others || found < 0 {
			continue
		}
		m := w.Classes[found].Methods[number]
		quiet := m.Prim == api.PrimNone
		for _, i := range m.Code {
			quiet = quiet && i.Op != api.OpSend && i.Op != api.OpNew
		}
		if quiet && m.Args == args {
			return c
		}
	}
	return -1
}

// In whatever order receivers came.
func TestI1SiteOfAllReceivers(t *testing.T) {
	w := world(t)
	var tryAll func(l []int, y []api.Tally)
	tryAll = func(l []int, y []api.Tally) {
		for _, name := range []string{"get", "set", "none", "hard", "+"} {
			for args := range 2 {
				if got, want := Site(w, y, here, name, args), oracle(w, l, name, args); got != want {
					t.Fatalf("receivers %v, %s of %d: %d, not %d", l, name, args, got, want)
				}
			}
		}
		if len(l) == 5 {
			return
		}
		for _, c := range []int{3, 4, 5, 6, 7} {
			tryAll(append(slices.Clone(l), c), tally.Add(y, here, c))
		}
	}
	tryAll(nil, nil)
}

func TestI1Sites(t *testing.T) {
	w := world(t)
	for _, x := range []struct {
		what  string
		class int
		name  string
		l     []api.Tally
		want  []int
	}{
		{"nothing was counted", 4, "sum", nil, []int{-1, -1, -1, -1, -1, -1}},
		{"the first send", 4, "sum", []api.Tally{count(at("sum", 1), line(4, 2))}, []int{-1, 4, -1, -1, -1, -1}},
		{"each by its own tally", 4, "sum", []api.Tally{count(at("sum", 3), line(5, 2)), count(at("sum", 1), line(4, 3), line(5, 2))}, []int{-1, 4, -1, 5, -1, -1}},
		{"primitives stay", 4, "sum", []api.Tally{count(at("sum", 4), line(3, 9)), count(at("sum", 3), line(5, 2))}, []int{-1, -1, -1, 5, -1, -1}},
		{"other classes' sites", 4, "sum", []api.Tally{count(api.Site{Class: 5, Name: "sum", At: 1}, line(4, 2)), count(api.Site{Class: 0, Name: "sum", At: 3}, line(4, 2))}, []int{-1, -1, -1, -1, -1, -1}},
		{"other methods' sites", 4, "sum", []api.Tally{count(at("get", 1), line(4, 2)), count(at("both", 3), line(4, 2))}, []int{-1, -1, -1, -1, -1, -1}},
		{"what sends nothing", 4, "sum", []api.Tally{count(at("sum", 0), line(4, 2)), count(at("sum", 2), line(4, 2)), count(at("sum", 5), line(4, 2)), count(at("sum", 6), line(4, 2)), count(at("sum", -1), line(4, 2))}, []int{-1, -1, -1, -1, -1, -1}},
		{"by name, and arguments", 4, "both", []api.Tally{count(at("both", 2), line(5, 2)), count(at("both", 3), line(5, 4)), count(at("both", 6), line(0, 2))}, []int{-1, -1, 5, 5, -1, -1, 0, -1}},
		{"of another number of arguments", 4, "both", []api.Tally{count(at("both", 3), line(7, 4)), count(at("both", 6), line(7, 2))}, []int{-1, -1, -1, -1, -1, -1, 7, -1}},
		{"another class's method", 6, "get", []api.Tally{count(api.Site{Class: 6, Name: "get", At: 1}, line(6, 2)), count(at("get", 1), line(4, 9))}, []int{-1, 6, -1}},
		{"a number's", 3, "next", []api.Tally{count(api.Site{Class: 3, Name: "next", At: 2}, line(4, 2))}, []int{-1, -1, -1, -1}},
		{"without sends", 4, "get", []api.Tally{count(at("get", 0), line(4, 2)), count(at("get", 1), line(4, 2))}, []int{-1, -1}},
		{"a primitive", 3, "+", []api.Tally{count(api.Site{Class: 3, Name: "+"}, line(4, 2))}, []int{}},
	} {
		got := Sites(w, x.l, x.class, numberOf(w, x.class, x.name))
		if !slices.Equal(got, x.want) {
			t.Errorf("%s: %v, not %v", x.what, got, x.want)
		}
	}
}

func TestI1SitesOfNone(t *testing.T) {
	w := world(t)
	l := []api.Tally{count(at("sum", 1), line(4, 2)), count(api.Site{}, line(4, 2)), count(api.Site{Class: -1}, line(4, 2))}
	for _, x := range [][2]int{
		{4, -1}, {4, len(w.Classes[4].Methods)}, {4, math.MaxInt}, {4, math.MinInt},
		{0, 1}, {1, 0}, {7, 1}, {-1, 0}, {8, 0}, {99, 0}, {math.MaxInt, 0}, {math.MinInt, 0}, {-1, -1},
	} {
		if got := Sites(w, l, x[0], x[1]); len(got) != 0 {
			t.Errorf("method %d of class %d: %v", x[1], x[0], got)
		}
	}
	if got := Sites(api.World{}, l, 0, 0); len(got) != 0 {
		t.Errorf("of a world without classes: %v", got)
	}
}

// What stands behind the ends of lists is not looked at.
func TestI1SpareRoom(t *testing.T) {
	w := world(t)
	sum := numberOf(w, 4, "sum")
	lines := []api.Line{line(4, 2), line(5, 7)}
	l := []api.Tally{count(at("sum", 1)), count(at("sum", 3), line(4, 9))}
	l[0].Classes = lines[:1]
	if got := Sites(w, l[:1], 4, sum); !slices.Equal(got, []int{-1, 4, -1, -1, -1, -1}) {
		t.Errorf("of tallies: %v", got)
	}
	w.Classes[4].Methods[sum].Code = w.Classes[4].Methods[sum].Code[:3]
	if got := Sites(w, l, 4, sum); !slices.Equal(got, []int{-1, 4, -1}) {
		t.Errorf("of code: %v", got)
	}
	w.Classes[4].Methods = w.Classes[4].Methods[:sum]
	if got := Sites(w, l, 4, sum); len(got) != 0 {
		t.Errorf("of methods: %v", got)
	}
	w.Classes = w.Classes[:4]
	if got := Sites(w, l, 4, 0); len(got) != 0 {
		t.Errorf("of classes: %v", got)
	}
}

// What is handed in is only read, and what is answered is the caller's.
func TestI1Memory(t *testing.T) {
	w := world(t)
	sum := numberOf(w, 4, "sum")
	l := []api.Tally{count(at("sum", 1), line(4, 2)), count(at("sum", 3), line(5, 3), line(4, 1))}
	world, tallies := class.Own(w), tally.Own(l)
	first := Sites(w, l, 4, sum)
	second := Sites(w, l, 4, sum)
	Site(w, l, at("sum", 3), "get", 0)
	for i := range first[:cap(first)] {
		first[:cap(first)][i] = 77
	}
	want := []int{-1, 4, -1, 5, -1, -1}
	if !slices.Equal(second, want) || !slices.Equal(Sites(w, l, 4, sum), want) {
		t.Error("answers share memory")
	}
	if !reflect.DeepEqual(class.Own(w), world) || !reflect.DeepEqual(tally.Own(l), tallies) {
		t.Error("what was handed in is changed")
	}
	l[0].Classes[0] = line(5, 9)
	w.Classes[4].Methods[sum].Code[3] = self
	if !slices.Equal(second, want) {
		t.Error("something of what was handed in is kept")
	}
	if got := Sites(w, l, 4, sum); !slices.Equal(got, []int{-1, 5, -1, -1, -1, -1}) {
		t.Errorf("an answer hangs on what was handed in earlier: %v", got)
	}
}

// Of worlds that are not right: no call panics, and all end.
func TestI1WrongWorlds(t *testing.T) {
	odd := api.Method{Name: "odd", Args: -1, Temps: -1, Code: []api.Instr{{Op: api.OpSend, A: -1, Name: "odd"}, {Op: 99}, {Op: -1, A: 7}}}
	worlds := []api.World{
		{},
		{Classes: []api.Class{{Super: 0, Methods: []api.Method{odd}}}},
		{Classes: []api.Class{{Super: 1}, {Super: 0}, {Super: 99, Methods: []api.Method{odd, odd}}, {Super: math.MinInt}}},
	}
	for _, w := range worlds {
		for c := -1; c < 5; c++ {
			for method := -1; method < 3; method++ {
				for most := -1; most < 5; most++ {
					s := api.Site{Class: c, Name: "odd"}
					l := []api.Tally{count(s, line(most, 2))}
					Site(w, l, s, "odd", -1)
					Site(w, l, s, "nobody", 0)
					Sites(w, l, c, method)
				}
			}
		}
	}
}

// Of two receivers, both of one class, whose method sends nothing: it is worth it. So runs with caches count them.
func TestI1AfterRuns(t *testing.T) {
	w := world(t)
	sum := numberOf(w, 4, "sum")
	w.Heap[0].Slots[0] = api.Value{Kind: api.ValInt, N: 3}
	call := api.Call{Self: api.Value{Kind: api.ValRef}, Name: "sum", Args: []api.Value{{Kind: api.ValRef, N: 1}}}
	var out api.Cached
	for _, want := range [][]int{{-1, -1, -1, -1, -1, -1}, {-1, 4, -1, 5, -1, -1}} {
		out = cached.Run(w, call, api.MaxFuel, out.Cells, out.Tallies)
		if out.Ran.Err != api.OK {
			t.Fatalf("the run fails: %v", out.Ran)
		}
		if got := Sites(w, out.Tallies, 4, sum); !slices.Equal(got, want) {
			t.Errorf("%v comes, not %v", got, want)
		}
	}
	w, _ = class.Install(w, 4, api.Method{Name: "get", Code: []api.Instr{self, send("none", 0), back}})
	if got := Sites(w, out.Tallies, 4, sum); !slices.Equal(got, []int{-1, -1, -1, 5, -1, -1}) {
		t.Errorf("%v comes, of a method that sends now", got)
	}
}
