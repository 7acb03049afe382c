package cached

import (
	"math"
	"reflect"
	"slices"
	"testing"

	"quickchange/api"
	"quickchange/cells"
	"quickchange/class"
	"quickchange/run"
	"quickchange/tally"
	"quickchange/wire"
)

func in(op, a int) api.Instr { return api.Instr{Op: op, A: a} }

func send(name string, args int) api.Instr { return api.Instr{Op: api.OpSend, A: args, Name: name} }

var (
	self = in(api.OpSelf, 0)
	null = in(api.OpNil, 0)
	yes  = in(api.OpTrue, 0)
	pop  = in(api.OpPop, 0)
	back = in(api.OpBack, 0)
)

func arg(n int) api.Instr    { return in(api.OpArg, n) }
func temp(n int) api.Instr   { return in(api.OpTemp, n) }
func set(n int) api.Instr    { return in(api.OpSet, n) }
func slot(n int) api.Instr   { return in(api.OpSlot, n) }
func put(n int) api.Instr    { return in(api.OpPut, n) }
func push(n int) api.Instr   { return in(api.OpInt, n) }
func fresh(c int) api.Instr  { return in(api.OpNew, c) }
func jump(to int) api.Instr  { return in(api.OpJump, to) }
func elseTo(n int) api.Instr { return in(api.OpElse, n) }

func num(n int) api.Value { return api.Value{Kind: api.ValInt, N: n} }

func ref(n int) api.Value { return api.Value{Kind: api.ValRef, N: n} }

var (
	isNil  = api.Value{}
	isTrue = api.Value{Kind: api.ValTrue}
)

func call(self api.Value, name string, args ...api.Value) api.Call {
	return api.Call{Self: self, Name: name, Args: args}
}

func came(v api.Value, sends int) api.Ran { return api.Ran{Value: v, Sends: sends} }

func failed(err api.Errno, sends int) api.Ran { return api.Ran{Err: err, Sends: sends} }

func at(name string, n int) api.Site { return api.Site{Class: 4, Name: name, At: n} }

func line(c, found int) api.Line { return api.Line{Class: c, Found: found} }

func cell(s api.Site, epoch int, lines ...api.Line) api.Cell {
	return api.Cell{Site: s, Epoch: epoch, Lines: lines}
}

func count(s api.Site, lines ...api.Line) api.Tally { return api.Tally{Site: s, Classes: lines} }

// Numbers of the objects of world.
const (
	box = iota
	odd
	last
	other
	empty
)

// meth is a method of a class.
type meth struct {
	class, args, temps int
	name               string
	code               []api.Instr
}

// world has class 4, of one slot, class 5 in it, with a `get` of its own, class 6 in that, and class 7, that has nothing;
// an object of each, and one more of class 4. Spare room behind its lists has marks that no call may change, nor tell.
func world(t *testing.T) api.World {
	t.Helper()
	w := class.New()
	for _, x := range []api.Class{{Name: "Box", Slots: 1}, {Name: "Odd", Super: 4}, {Name: "Last", Super: 5}, {Name: "Other"}} {
		w, _, _ = class.Make(w, x.Name, x.Super, x.Slots)
	}
	for _, x := range []meth{
		{4, 0, 0, "get", []api.Instr{slot(0), back}},
		{5, 0, 0, "get", []api.Instr{push(7), back}},
		{4, 1, 0, "set", []api.Instr{arg(0), put(0), self, back}},
		{4, 1, 0, "ask", []api.Instr{arg(0), send("get", 0), back}},
		{4, 1, 0, "sum", []api.Instr{self, send("get", 0), arg(0), send("get", 0), send("+", 1), back}},
		{4, 1, 1, "loop", []api.Instr{push(0), set(0), temp(0), arg(0), send("<", 1), elseTo(13), self, send("get", 0), pop, temp(0), push(1), send("+", 1), jump(1), temp(0), back}},
		{4, 0, 0, "deep", []api.Instr{self, send("deep", 0), back}},
		{4, 1, 0, "new", []api.Instr{fresh(5), arg(0), send("set", 1), pop, arg(0), send("get", 0), back}},
		{4, 0, 0, "twice", []api.Instr{self, push(5), send("set", 1), pop, self, push(6), send("get", 1), back}},
	} {
		var err api.Errno
		if w, err = class.Install(w, x.class, api.Method{Name: x.name, Args: x.args, Temps: x.temps, Code: x.code}); err != api.OK {
			t.Fatalf("Install %s: error %d", x.name, err)
		}
	}
	slots := []api.Value{num(20), num(666)}
	w.Heap = []api.Object{{Class: 4, Slots: slots[:1]}, {Class: 5, Slots: []api.Value{num(1)}}, {Class: 6, Slots: []api.Value{ref(0)}}, {Class: 7}, {Class: 4, Slots: []api.Value{isNil}}, {Class: 66}}[:5]
	if err := wire.Right(w); err != api.OK {
		t.Fatalf("the world is not right: error %d", err)
	}
	return w
}

// same holds answers against each other by their entries: neither spare room nor nil lists are seen.
func same(a, b api.Cached) bool {
	return reflect.DeepEqual(own(a), own(b))
}

func own(x api.Cached) api.Cached {
	x.World, x.Cells, x.Tallies = class.Own(x.World), cells.Own(x.Cells), tally.Own(x.Tallies)
	return x
}

// ran is what comes of Run: whatever it is, what was handed in is as it was, and a failure changes no world.
func ran(t *testing.T, w api.World, c api.Call, fuel int, l []api.Cell, y []api.Tally) api.Cached {
	t.Helper()
	before := own(api.Cached{World: w, Cells: l, Tallies: y})
	args := slices.Clone(c.Args)
	out := Run(w, c, fuel, l, y)
	if !same(api.Cached{World: w, Cells: l, Tallies: y}, before) || !slices.Equal(c.Args, args) {
		t.Errorf("%v, fuel %d: what was handed in is changed", c, fuel)
	}
	if out.Ran.Err != api.OK && !sameWorld(out.World, w) {
		t.Errorf("%v, fuel %d: the world is changed by a call that fails", c, fuel)
	}
	if err := wire.Right(out.World); err != api.OK {
		t.Errorf("%v, fuel %d: the world is not right any more: error %d", c, fuel, err)
	}
	return out
}

func sameWorld(a, b api.World) bool {
	return reflect.DeepEqual(class.Own(a), class.Own(b))
}

// want is an answer whose world is w.
func want(w api.World, r api.Ran, hits, not int, l []api.Cell, y []api.Tally) api.Cached {
	return api.Cached{World: w, Ran: r, Cells: l, Tallies: y, Hits: hits, Not: not}
}

func TestH1(t *testing.T) {
	w := world(t)
	e := w.Epoch
	ask, loop := at("ask", 1), []api.Site{at("loop", 4), at("loop", 7), at("loop", 11)}
	for _, x := range []struct {
		what string
		c    api.Call
		fuel int
		l    []api.Cell
		y    []api.Tally
		want api.Cached
	}{
		{"the first call is no OpSend", call(ref(box), "get"), 9, nil, nil, want(w, came(num(20), 1), 0, 0, nil, nil)},
		{"nor is it, if it is a primitive", call(num(2), "+", num(3)), 9, nil, nil, want(w, came(num(5), 1), 0, 0, nil, nil)},
		{"nor does a cell tell it", call(ref(box), "get"), 9, []api.Cell{cell(api.Site{}, e, line(4, 5)), cell(at("get", 0), e, line(4, 5))}, nil,
			want(w, came(num(20), 1), 0, 0, []api.Cell{cell(api.Site{}, e, line(4, 5)), cell(at("get", 0), e, line(4, 5))}, nil)},
		{"looked for", call(ref(box), "ask", ref(odd)), 9, nil, nil,
			want(w, came(num(7), 2), 0, 1, []api.Cell{cell(ask, e, line(5, 5))}, []api.Tally{count(ask, line(5, 1))})},
		{"empty lists", call(ref(box), "ask", ref(odd)), 9, []api.Cell{}, []api.Tally{},
			want(w, came(num(7), 2), 0, 1, []api.Cell{cell(ask, e, line(5, 5))}, []api.Tally{count(ask, line(5, 1))})},
		{"remembered", call(ref(box), "ask", ref(odd)), 9, []api.Cell{cell(ask, e, line(5, 5))}, []api.Tally{count(ask, line(5, 1))},
			want(w, came(num(7), 2), 1, 0, []api.Cell{cell(ask, e, line(5, 5))}, []api.Tally{count(ask, line(5, 2))})},
		{"remembered, but not counted yet", call(ref(box), "ask", ref(odd)), 9, []api.Cell{cell(ask, e, line(5, 5))}, nil,
			want(w, came(num(7), 2), 1, 0, []api.Cell{cell(ask, e, line(5, 5))}, []api.Tally{count(ask, line(5, 1))})},
		{"the class that has it, and the receiver's", call(ref(box), "ask", ref(last)), 9, nil, nil,
			want(w, came(num(7), 2), 0, 1, []api.Cell{cell(ask, e, line(6, 5))}, []api.Tally{count(ask, line(6, 1))})},
		{"the site is of the class that has the method", call(ref(last), "ask", ref(box)), 9, nil, nil,
			want(w, came(num(20), 2), 0, 1, []api.Cell{cell(ask, e, line(4, 4))}, []api.Tally{count(ask, line(4, 1))})},
		{"another class", call(ref(box), "ask", ref(box)), 9, []api.Cell{cell(ask, e, line(5, 5))}, []api.Tally{count(ask, line(5, 1))},
			want(w, came(num(20), 2), 0, 1, []api.Cell{cell(ask, e, line(5, 5), line(4, 4))}, []api.Tally{count(ask, line(5, 1), line(4, 1))})},
		{"another epoch", call(ref(box), "ask", ref(odd)), 9, []api.Cell{cell(ask, e-1, line(5, 4), line(4, 4))}, []api.Tally{count(ask, line(5, 1))},
			want(w, came(num(7), 2), 0, 1, []api.Cell{cell(ask, e, line(5, 5))}, []api.Tally{count(ask, line(5, 2))})},
		{"a later epoch", call(ref(box), "ask", ref(odd)), 9, []api.Cell{cell(ask, e+1, line(5, 4))}, nil,
			want(w, came(num(7), 2), 0, 1, []api.Cell{cell(ask, e, line(5, 5))}, []api.Tally{count(ask, line(5, 1))})},
		{"each send of a loop", call(ref(box), "loop", num(2)), 9, nil, nil, want(w, came(num(2), 8), 4, 3,
			[]api.Cell{cell(loop[0], e, line(3, 3)), cell(loop[1], e, line(4, 4)), cell(loop[2], e, line(3, 3))},
			[]api.Tally{count(loop[0], line(3, 3)), count(loop[1], line(4, 2)), count(loop[2], line(3, 2))})},
		{"other sites stay, those of the run come last", call(ref(box), "ask", ref(odd)), 9, []api.Cell{cell(at("sum", 1), e-1, line(9, 9))}, []api.Tally{count(at("sum", 1), line(9, 9))},
			want(w, came(num(7), 2), 0, 1, []api.Cell{cell(at("sum", 1), e-1, line(9, 9)), cell(ask, e, line(5, 5))}, []api.Tally{count(at("sum", 1), line(9, 9)), count(ask, line(5, 1))})},
		{"the first cell, and tally, of a site", call(ref(box), "ask", ref(odd)), 9, []api.Cell{cell(ask, e), cell(ask, e, line(5, 4))}, []api.Tally{count(ask), count(ask, line(5, 8))},
			want(w, came(num(7), 2), 0, 1, []api.Cell{cell(ask, e, line(5, 5)), cell(ask, e, line(5, 4))}, []api.Tally{count(ask, line(5, 1)), count(ask, line(5, 8))})},
		{"no more lines", call(ref(box), "ask", ref(odd)), 9, []api.Cell{cell(ask, e, line(4, 4), line(6, 5), line(0, 0))}, nil,
			want(w, came(num(7), 2), 0, 1, []api.Cell{{Site: ask, Epoch: e, Many: true}}, []api.Tally{count(ask, line(5, 1))})},
		{"many", call(ref(box), "ask", ref(odd)), 9, []api.Cell{{Site: ask, Epoch: e, Many: true}}, []api.Tally{count(ask, line(5, 6))},
			want(w, came(num(7), 2), 0, 1, []api.Cell{{Site: ask, Epoch: e, Many: true}}, []api.Tally{count(ask, line(5, 7))})},
		{"many, of another epoch", call(ref(box), "ask", ref(odd)), 9, []api.Cell{{Site: ask, Epoch: e - 1, Many: true}}, nil,
			want(w, came(num(7), 2), 0, 1, []api.Cell{cell(ask, e, line(5, 5))}, []api.Tally{count(ask, line(5, 1))})},
	} {
		if got := ran(t, w, x.c, x.fuel, x.l, x.y); !same(got, x.want) {
			t.Errorf("%s: %v comes, not %v", x.what, got, x.want)
		}
	}
}

// Cells and tallies, and what was remembered, are told of calls that fail too.
func TestH1Failures(t *testing.T) {
	w := world(t)
	e := w.Epoch
	ask, deep := at("ask", 1), at("deep", 1)
	sum := []api.Site{at("sum", 1), at("sum", 3), at("sum", 4)}
	for _, x := range []struct {
		what string
		c    api.Call
		fuel int
		want api.Cached
	}{
		{"nobody understands the call", call(ref(box), "nobody"), 9, want(w, failed(api.ErrSend, 0), 0, 0, nil, nil)},
		{"it does not fit", call(ref(box), "ask"), 9, want(w, failed(api.ErrFit, 0), 0, 0, nil, nil)},
		{"nothing is found, but counted", call(ref(box), "ask", ref(other)), 9,
			want(w, failed(api.ErrSend, 1), 0, 1, nil, []api.Tally{count(ask, line(7, 1))})},
		{"nothing is found of nil", call(ref(box), "ask", isNil), 9,
			want(w, failed(api.ErrSend, 1), 0, 1, nil, []api.Tally{count(ask, line(1, 1))})},
		{"nothing is found at last", call(ref(box), "sum", isTrue), 9,
			want(w, failed(api.ErrSend, 2), 0, 2, []api.Cell{cell(sum[0], e, line(4, 4))}, []api.Tally{count(sum[0], line(4, 1)), count(sum[1], line(2, 1))})},
		{"no fuel for the call", call(ref(box), "ask", ref(odd)), 0, want(w, failed(api.ErrFuel, 0), 0, 0, nil, nil)},
		{"found, but there is no fuel", call(ref(box), "ask", ref(odd)), 1,
			want(w, failed(api.ErrFuel, 1), 0, 1, []api.Cell{cell(ask, e, line(5, 5))}, []api.Tally{count(ask, line(5, 1))})},
		{"found, but calls are too deep", call(ref(box), "deep"), api.MaxFuel,
			want(w, failed(api.ErrDeep, api.MaxDeep), api.MaxDeep-1, 1, []api.Cell{cell(deep, e, line(4, 4))}, []api.Tally{count(deep, line(4, api.MaxDeep))})},
		{"found, but it does not fit; the slot is as it was", call(ref(box), "twice"), 9, want(w, failed(api.ErrFit, 2), 0, 2,
			[]api.Cell{cell(at("twice", 2), e, line(4, 4)), cell(at("twice", 6), e, line(4, 4))},
			[]api.Tally{count(at("twice", 2), line(4, 1)), count(at("twice", 6), line(4, 1))})},
		{"found, but it is no number", call(ref(last), "sum", ref(empty)), 9, want(w, failed(api.ErrInt, 4), 0, 3,
			[]api.Cell{cell(sum[0], e, line(6, 5)), cell(sum[1], e, line(4, 4)), cell(sum[2], e, line(3, 3))},
			[]api.Tally{count(sum[0], line(6, 1)), count(sum[1], line(4, 1)), count(sum[2], line(3, 1))})},
		{"nothing is found of a new object's argument; there is none then", call(ref(box), "new", ref(other)), 9, want(w, failed(api.ErrSend, 2), 0, 2,
			[]api.Cell{cell(at("new", 2), e, line(5, 4))},
			[]api.Tally{count(at("new", 2), line(5, 1)), count(at("new", 5), line(7, 1))})},
	} {
		if got := ran(t, w, x.c, x.fuel, nil, nil); !same(got, x.want) {
			t.Errorf("%s: %v comes, not %v", x.what, got, x.want)
		}
	}
}

// What is wrong with a call is told, and cells and tallies are as they were.
func TestH1WrongCalls(t *testing.T) {
	w := world(t)
	l := []api.Cell{cell(at("ask", 1), w.Epoch, line(4, 4)), {Site: at("sum", 1), Epoch: 1, Many: true}}
	y := []api.Tally{count(at("ask", 1), line(4, 3)), count(at("sum", 1))}
	for _, x := range []struct {
		c    api.Call
		fuel int
		err  api.Errno
	}{
		{call(ref(box), "", ref(box)), 9, api.ErrName},
		{call(ref(box), "a name too long", ref(box)), 9, api.ErrName},
		{call(ref(box), "ask", isNil, isNil, isNil, isNil, isNil), 9, api.ErrMany},
		{call(ref(box), "ask", ref(box)), -1, api.ErrRange},
		{call(ref(box), "ask", ref(box)), api.MaxFuel + 1, api.ErrRange},
		{call(ref(box), "ask", ref(box)), math.MinInt, api.ErrRange},
		{call(ref(5), "ask", ref(box)), 9, api.ErrNone},
		{call(ref(box), "ask", ref(-1)), 9, api.ErrNone},
		{call(ref(box), "ask", api.Value{Kind: 5}), 9, api.ErrKind},
		{call(ref(box), "ask", api.Value{Kind: api.ValTrue, N: 1}), 9, api.ErrForm},
		{call(num(api.MaxNumber+1), "+", num(1)), 9, api.ErrRange},
	} {
		if got := ran(t, w, x.c, x.fuel, l, y); !same(got, want(w, failed(x.err, 0), 0, 0, l, y)) {
			t.Errorf("%v, fuel %d: %v comes, not error %d", x.c, x.fuel, got, x.err)
		}
	}
}

// Find tells what a cell remembers, whether it is so or not.
func TestH1CellsThatRememberWhatIsNotSo(t *testing.T) {
	w := world(t)
	ask := at("ask", 1)
	for _, x := range []struct {
		what      string
		found     int
		ran       api.Ran
		hits, not int
	}{
		{"what is so", 5, came(num(7), 2), 1, 0},
		{"the one above", 4, came(num(1), 2), 1, 0},
		{"one that finds it above", 6, came(num(7), 2), 1, 0},
		{"one that finds nothing", 7, failed(api.ErrSend, 1), 1, 0},
		{"no class below", -1, came(num(7), 2), 0, 1},
		{"no class above", 8, came(num(7), 2), 0, 1},
		{"no class at all", math.MaxInt, came(num(7), 2), 0, 1},
	} {
		l := []api.Cell{cell(ask, w.Epoch, line(5, x.found))}
		got := ran(t, w, call(ref(box), "ask", ref(odd)), 9, l, nil)
		if !same(got, want(w, x.ran, x.hits, x.not, l, []api.Tally{count(ask, line(5, 1))})) {
			t.Errorf("%s: %v comes", x.what, got)
		}
	}
}

// Once looked for, then remembered; when a method changes, what is old is not taken.
func TestH1Again(t *testing.T) {
	w := world(t)
	var out api.Cached
	check := func(what string, v api.Value, hits, not int) {
		t.Helper()
		out = ran(t, w, call(ref(box), "ask", ref(last)), 9, out.Cells, out.Tallies)
		if out.Ran != came(v, 2) || out.Hits != hits || out.Not != not {
			t.Errorf("%s: %v comes, %d remembered, %d not", what, out.Ran, out.Hits, out.Not)
		}
	}
	check("at first", num(7), 0, 1)
	check("then", num(7), 1, 0)
	check("and again", num(7), 1, 0)
	w, _ = class.Install(w, 6, api.Method{Name: "get", Code: []api.Instr{null, back}})
	check("changed", isNil, 0, 1)
	check("and then", isNil, 1, 0)
	w, _ = class.Install(w, 6, api.Method{Name: "aaa", Code: []api.Instr{yes, back}})
	check("its number is another one", isNil, 0, 1)
	if n := tally.All(out.Tallies, at("ask", 1)); n != 6 {
		t.Errorf("of six receivers %d were counted", n)
	}
}

// Within one run classes become too many, and are not remembered from then on.
func TestH1TooManyWithinOneRun(t *testing.T) {
	w := world(t)
	code := []api.Instr{}
	for _, v := range []api.Instr{self, fresh(5), fresh(6), fresh(5), arg(0), fresh(5), fresh(6)} {
		code = append(code, self, v, send("back", 1), pop)
	}
	w, _ = class.Install(w, 4, api.Method{Name: "ask", Args: 1, Code: []api.Instr{arg(0), send("hi", 0), back}})
	w, _ = class.Install(w, 0, api.Method{Name: "hi", Code: []api.Instr{push(1), back}})
	w, _ = class.Install(w, 0, api.Method{Name: "back", Args: 1, Code: []api.Instr{self, arg(0), send("ask", 1), back}})
	w, _ = class.Install(w, 0, api.Method{Name: "all", Args: 1, Code: append(code, self, back)})
	out := ran(t, w, call(ref(box), "all", num(3)), api.MaxFuel, nil, nil)
	ask := slices.IndexFunc(out.Cells, func(c api.Cell) bool { return c.Site == at("ask", 1) })
	if ask < 0 || !reflect.DeepEqual(cells.Own(out.Cells[ask:ask+1]), cells.Own([]api.Cell{{Site: at("ask", 1), Epoch: w.Epoch, Many: true}})) {
		t.Errorf("the cells are %v", out.Cells)
	}
	// 7 sends of all, once each; of back, 6 of which are remembered; of ask, of which that of the second one of class 5 is.
	if out.Ran != came(ref(box), 22) || out.Hits != 7 || out.Not != 14 {
		t.Errorf("%v comes, %d remembered, %d not", out.Ran, out.Hits, out.Not)
	}
	if y := out.Tallies; tally.All(y, at("ask", 1)) != 7 {
		t.Errorf("the tallies are %v", y)
	}
}

// asked is what a plain run finds, one behind the other.
type asked struct {
	site  api.Site
	class int
	name  string
}

func plainly(w api.World, c api.Call, fuel int) (api.World, api.Ran, []asked) {
	var l []asked
	x, r := run.With(w, c, fuel, func(s api.Site, k int, name string) (int, int) {
		l = append(l, asked{s, k, name})
		return class.Find(w, k, name)
	}, run.None)
	return x, r, l
}

// With cells that earlier runs left, of this world or of what it was, all is as Plain; and each send is counted once.
func TestH1AsPlain(t *testing.T) {
	w := world(t)
	values := []api.Value{isNil, isTrue, num(3), ref(box), ref(odd), ref(last), ref(other), ref(9)}
	var out api.Cached
	for _, m := range []meth{{5, 0, 0, "get", []api.Instr{slot(0), back}}, {7, 0, 0, "get", []api.Instr{push(1), back}}, {4, 1, 0, "ask", []api.Instr{self, arg(0), send("sum", 1), back}}, {0, 0, 0, "deep", []api.Instr{null, back}}} {
		for _, name := range []string{"get", "ask", "sum", "loop", "deep", "new", "twice", "nobody", "+", ""} {
			for _, v := range values {
				for _, a := range [][]api.Value{nil, {values[2]}, {values[3]}, {values[4]}, {values[5]}, {values[6]}} {
					for _, fuel := range []int{-1, 0, 1, 2, 3, 5, 100, 400} {
						out = asPlain(t, w, call(v, name, a...), fuel, out)
					}
				}
			}
		}
		w, _ = class.Install(w, m.class, api.Method{Name: m.name, Args: m.args, Temps: m.temps, Code: m.code})
	}
}

func asPlain(t *testing.T, w api.World, c api.Call, fuel int, was api.Cached) api.Cached {
	t.Helper()
	x, r, l := plainly(w, c, fuel)
	out := ran(t, w, c, fuel, was.Cells, was.Tallies)
	if out.Ran != r || !sameWorld(out.World, x) {
		t.Errorf("%v, fuel %d: %v comes, not %v", c, fuel, out.Ran, r)
	}
	want := api.Cached{Cells: was.Cells, Tallies: was.Tallies}
	for _, s := range l {
		if cells.Get(want.Cells, s.site, w.Epoch, s.class) >= 0 {
			want.Hits++
		} else if found, _ := class.Find(w, s.class, s.name); found >= 0 {
			want.Cells = cells.Put(want.Cells, s.site, w.Epoch, s.class, found)
		}
		want.Tallies = tally.Add(want.Tallies, s.site, s.class)
	}
	want.World, want.Ran, want.Not = x, r, len(l)-want.Hits
	if !same(out, want) {
		t.Errorf("%v, fuel %d: %v comes, not %v", c, fuel, out, want)
	}
	return out
}

// roomy is l with spare room behind it, whose entries are marked.
func roomy[T any](l []T, mark T) []T {
	r := append(make([]T, 0, len(l)+2), l...)
	copy(r[len(l):cap(r)], []T{mark, mark})
	return r
}

// What is answered is the caller's, spare room too, even where it is as it was; marks in what was handed in stay.
func TestH1Memory(t *testing.T) {
	w := world(t)
	ask := at("ask", 1)
	for _, x := range []struct {
		c    api.Call
		fuel int
	}{{call(ref(box), "ask", ref(odd)), 9}, {call(ref(box), "ask", ref(box)), 9}, {call(ref(box), "ask", ref(other)), 9}, {call(ref(box), "get"), 9}, {call(ref(box), ""), 9}, {call(ref(box), "new", ref(box)), 9}, {call(ref(box), "sum", ref(odd)), 3}} {
		lines := roomy([]api.Line{line(5, 5)}, line(4, 77))
		l := roomy([]api.Cell{cell(ask, w.Epoch, lines...)}, cell(at("sum", 1), w.Epoch, line(4, 77)))
		l[0].Lines = lines
		counts := roomy([]api.Line{line(5, 1)}, line(4, 77))
		y := roomy([]api.Tally{{Site: ask, Classes: counts}}, count(at("sum", 1), line(4, 77)))
		world := class.Own(w)
		tell := func() string { return told(l[:cap(l)], y[:cap(y)], lines[:cap(lines)], counts[:cap(counts)]) }
		before := tell()
		out := Run(world, x.c, x.fuel, l, y)
		first := own(out)
		spoil(out)
		if tell() != before || !sameWorld(world, w) {
			t.Errorf("%v: what was handed in is changed, or shared", x.c)
		}
		again := Run(world, x.c, x.fuel, l, y)
		if !same(again, first) {
			t.Errorf("%v: %v comes first, then %v", x.c, first, again)
		}
		spoil(api.Cached{World: world, Cells: l, Tallies: y})
		if !same(again, first) {
			t.Errorf("%v: something of what was handed in is kept", x.c)
		}
	}
}

// told tells cells, tallies and lines by their entries, so that they can be held against each other later.
func told(l []api.Cell, y []api.Tally, lines ...[]api.Line) string {
	var s []byte
	put := func(l []int) {
		for _, n := range l {
			s = append(s, byte(n), ' ')
		}
	}
	for _, c := range l {
		s = append(s, c.Site.Name...)
		put([]int{c.Site.Class, c.Site.At, c.Epoch, len(c.Lines)})
		lines = append(lines, c.Lines)
	}
	for _, c := range y {
		s = append(s, c.Site.Name...)
		put([]int{c.Site.Class, c.Site.At, len(c.Classes)})
		lines = append(lines, c.Classes)
	}
	for _, l := range lines {
		for _, x := range l {
			put([]int{x.Class, x.Found})
		}
	}
	return string(s)
}

// spoil changes all that x reaches, spare room too.
func spoil(x api.Cached) {
	for _, c := range x.Cells[:cap(x.Cells)] {
		fill(c.Lines, line(-9, -9))
	}
	fill(x.Cells, api.Cell{Epoch: -9, Many: true})
	for _, c := range x.Tallies[:cap(x.Tallies)] {
		fill(c.Classes, line(-9, -9))
	}
	fill(x.Tallies, api.Tally{Site: at("spoilt", -9)})
	for _, c := range x.World.Classes {
		for _, m := range c.Methods {
			fill(m.Code, api.Instr{Op: -9})
		}
		fill(c.Methods, api.Method{Name: "spoilt"})
	}
	fill(x.World.Classes, api.Class{Name: "spoilt"})
	for _, o := range x.World.Heap {
		fill(o.Slots, num(-9))
	}
	fill(x.World.Heap, api.Object{Class: -9})
}

func fill[T any](l []T, mark T) {
	l = l[:cap(l)]
	for i := range l {
		l[i] = mark
	}
}
