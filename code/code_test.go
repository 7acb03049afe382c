package code

import (
	"math"
	"reflect"
	"slices"
	"testing"

	"quickchange/api"
	"quickchange/class"
)

func in(op, a int) api.Instr { return api.Instr{Op: op, A: a} }

func send(args int) api.Instr { return api.Instr{Op: api.OpSend, A: args, Name: "x"} }

var (
	self = in(api.OpSelf, 0)
	null = in(api.OpNil, 0)
	no   = in(api.OpFalse, 0)
	pop  = in(api.OpPop, 0)
	dup  = in(api.OpDup, 0)
	back = in(api.OpBack, 0)
)

func jump(to int) api.Instr { return in(api.OpJump, to) }

func orElse(to int) api.Instr { return in(api.OpElse, to) }

func method(code ...api.Instr) api.Method {
	return api.Method{Name: "m", Args: 2, Temps: 3, Code: code}
}

func times(n int, x api.Instr) []api.Instr { return slices.Repeat([]api.Instr{x}, n) }

func fault(err api.Errno, at int) api.Fault { return api.Fault{Err: err, At: at} }

var right = api.Fault{}

// world has class 4, of two slots, and class 5 in it, of one more.
func world(t *testing.T) api.World {
	t.Helper()
	w := class.New()
	for _, x := range []api.Class{{Name: "A", Super: 0, Slots: 2}, {Name: "B", Super: 4, Slots: 1}} {
		made, _, err := class.Make(w, x.Name, x.Super, x.Slots)
		if err != api.OK {
			t.Fatalf("Make %q: error %d", x.Name, err)
		}
		w = made
	}
	return w
}

func TestC1Heights(t *testing.T) {
	for _, x := range []struct {
		name string
		code []api.Instr
		want []int
	}{
		{"one value comes back", []api.Instr{self, back}, []int{0, 1}},
		{"what needs none leaves one", []api.Instr{self, in(api.OpArg, 0), in(api.OpTemp, 0), in(api.OpSlot, 0), in(api.OpInt, 5), null, no, in(api.OpTrue, 0), in(api.OpNew, 4), send(4), send(4), back}, []int{0, 1, 2, 3, 4, 5, 6, 7, 8, 9, 5, 1}},
		{"what needs one leaves none", []api.Instr{self, self, self, self, pop, in(api.OpSet, 0), in(api.OpPut, 0), back}, []int{0, 1, 2, 3, 4, 3, 2, 1}},
		{"one is there twice", []api.Instr{self, dup, dup, send(2), back}, []int{0, 1, 2, 3, 1}},
		{"a send without arguments", []api.Instr{self, send(0), back}, []int{0, 1, 1}},
		{"both ways meet", []api.Instr{no, orElse(4), null, jump(5), self, back}, []int{0, 1, 0, 1, 0, 1}},
		{"both ways come back", []api.Instr{no, orElse(4), null, back, self, back}, []int{0, 1, 0, 1, 0, 1}},
		{"both ways are one", []api.Instr{no, orElse(2), self, back}, []int{0, 1, 0, 1}},
		{"nothing leads there", []api.Instr{jump(2), pop, self, back, pop}, []int{0, -1, 0, 1, -1}},
		{"a jump leads to A alone", []api.Instr{jump(3), pop, back, self, jump(5), back}, []int{0, -1, -1, 0, 1, 1}},
		{"jumps to itself", []api.Instr{jump(0)}, []int{0}},
		{"jumps to itself higher up", []api.Instr{self, self, jump(2)}, []int{0, 1, 2}},
		{"two jumps", []api.Instr{jump(1), jump(0)}, []int{0, 0}},
		{"a way back to the same height", []api.Instr{no, orElse(0), self, back}, []int{0, 1, 0, 1}},
		{"backwards", []api.Instr{jump(4), no, back, pop, jump(1)}, []int{0, 0, 1, -1, 0}},
		{"as high as may be", slices.Concat(times(12, self), times(11, pop), []api.Instr{back}), []int{0, 1, 2, 3, 4, 5, 6, 7, 8, 9, 10, 11, 12, 11, 10, 9, 8, 7, 6, 5, 4, 3, 2, 1}},
		{"twice, as high as may be", slices.Concat([]api.Instr{self}, times(11, dup), times(2, send(4)), []api.Instr{send(3), back}), []int{0, 1, 2, 3, 4, 5, 6, 7, 8, 9, 10, 11, 12, 8, 4, 1}},
	} {
		got, f := Heights(method(x.code...))
		if f != right || !slices.Equal(got, x.want) {
			t.Errorf("%s: %v, fault %v, not %v", x.name, got, f, x.want)
		}
	}
}

func TestC1Faults(t *testing.T) {
	for _, x := range []struct {
		name string
		code []api.Instr
		want api.Fault
	}{
		{"ends too soon", []api.Instr{in(api.OpInt, 5)}, fault(api.ErrEnd, 1)},
		{"ends too soon behind another way back", []api.Instr{no, orElse(4), self, back, null, pop}, fault(api.ErrEnd, 6)},
		{"what is false ends too soon", []api.Instr{no, orElse(0)}, fault(api.ErrEnd, 2)},
		{"needs one of none", []api.Instr{pop}, fault(api.ErrFit, 0)},
		{"sets what is not there", []api.Instr{jump(2), self, in(api.OpSet, 0)}, fault(api.ErrFit, 2)},
		{"puts what is not there", []api.Instr{in(api.OpPut, 0)}, fault(api.ErrFit, 0)},
		{"asks what is not there", []api.Instr{orElse(0)}, fault(api.ErrFit, 0)},
		{"twice nothing", []api.Instr{dup}, fault(api.ErrFit, 0)},
		{"nobody to send to", []api.Instr{send(0)}, fault(api.ErrFit, 0)},
		{"only an argument", []api.Instr{self, send(1), back}, fault(api.ErrFit, 1)},
		{"one argument less", []api.Instr{self, dup, dup, dup, send(4), back}, fault(api.ErrFit, 4)},
		{"nothing comes back", []api.Instr{back}, fault(api.ErrFit, 0)},
		{"two would come back", []api.Instr{self, self, back}, fault(api.ErrFit, 2)},
		{"two heights", []api.Instr{no, orElse(3), null, self, back}, fault(api.ErrFit, 3)},
		{"higher each time", []api.Instr{self, jump(0)}, fault(api.ErrFit, 0)},
		{"lower each time", []api.Instr{self, self, self, pop, jump(3)}, fault(api.ErrFit, 3)},
		{"one too high", times(13, self), fault(api.ErrMuch, 12)},
		{"too high, and then no more", slices.Concat(times(13, self), times(12, pop), []api.Instr{back}), fault(api.ErrMuch, 12)},
		{"twice too high", slices.Concat(times(12, self), []api.Instr{dup}), fault(api.ErrMuch, 12)},
	} {
		got, f := Heights(method(x.code...))
		if f != x.want || len(got) != 0 {
			t.Errorf("%s: %v, fault %v, not %v", x.name, got, f, x.want)
		}
	}
}

// The first fault is told in the order in which instructions come to be led to.
func TestC1Order(t *testing.T) {
	for _, x := range []struct {
		name string
		code []api.Instr
		want api.Fault
	}{
		{"the next one ahead of where it is false", []api.Instr{no, orElse(3), pop, dup}, fault(api.ErrFit, 2)},
		{"the next one ahead, though it stands behind", []api.Instr{jump(2), back, no, orElse(1), pop}, fault(api.ErrFit, 4)},
		{"both ways step by step", []api.Instr{no, orElse(5), null, pop, pop, back}, fault(api.ErrFit, 5)},
		{"an end ahead of another fault", []api.Instr{no, orElse(3), jump(6), self, self, back, self}, fault(api.ErrEnd, 7)},
		{"an end when it comes to that", []api.Instr{no, orElse(3), jump(5), null, send(1), null}, fault(api.ErrFit, 4)},
		{"another height when it comes to that", []api.Instr{no, orElse(4), null, jump(0), null, send(1)}, fault(api.ErrFit, 5)},
		{"the same height from both ways is no fault", []api.Instr{no, orElse(4), null, jump(5), null, null, back}, fault(api.ErrFit, 6)},
	} {
		if got, f := Heights(method(x.code...)); f != x.want || len(got) != 0 {
			t.Errorf("%s: %v, fault %v, not %v", x.name, got, f, x.want)
		}
	}
}

// paths goes each way through code on its own, as a run would, and tells whether all is well: nobody falls out of it,
// takes what is not there, or comes by at two heights.
func paths(code []api.Instr, heights []int, at, height int) bool {
	if at >= len(code) {
		return false
	}
	if heights[at] >= 0 {
		return heights[at] == height
	}
	heights[at] = height
	switch x := code[at]; x.Op {
	case api.OpSelf:
		return paths(code, heights, at+1, height+1)
	case api.OpPop:
		return height >= 1 && paths(code, heights, at+1, height-1)
	case api.OpDup:
		return height >= 1 && paths(code, heights, at+1, height+1)
	case api.OpSend:
		return height >= x.A+1 && paths(code, heights, at+1, height-x.A)
	case api.OpJump:
		return paths(code, heights, x.A, height)
	case api.OpElse:
		return height >= 1 && paths(code, heights, x.A, height-1) && paths(code, heights, at+1, height-1)
	}
	return height == 1
}

// One height, whichever way one came: whether all short methods are right does not hang on the way through them.
func TestC1AllShortMethods(t *testing.T) {
	const most = 4
	var good, bad int
	for n := 1; n <= most; n++ {
		choices := []api.Instr{self, pop, dup, send(0), send(1), back}
		for to := range n {
			choices = append(choices, jump(to), orElse(to))
		}
		all := 1
		for range n {
			all *= len(choices)
		}
		for k := range all {
			code := make([]api.Instr, n)
			for i := range code {
				code[i] = choices[k%len(choices)]
				k /= len(choices)
			}
			want := slices.Repeat([]int{-1}, n)
			fine := paths(code, want, 0, 0)
			got, f := Heights(method(code...))
			if fine != (f == right) || fine && !slices.Equal(got, want) || !fine && len(got) != 0 {
				t.Fatalf("%v: %v, fault %v, not %v, %v", code, got, f, want, fine)
			}
			if fine {
				good++
			} else {
				bad++
			}
		}
	}
	if good < 100 || bad < 100 {
		t.Errorf("%d are right, %d are not", good, bad)
	}
}

// Of numbers that are not right nothing is promised, but that the call ends, and nothing panics.
func TestC1NoPanic(t *testing.T) {
	for _, n := range []int{math.MinInt, math.MinInt + 1, -99, -1, 13, 99, math.MaxInt - 1, math.MaxInt} {
		for op := -1; op <= api.OpCount+1; op++ {
			Heights(method(in(op, n), in(op, n), back))
			Heights(method(self, self, in(op, n), jump(0)))
			Heights(method(no, orElse(n), in(op, n), in(n, n)))
		}
	}
	if got, f := Heights(method(jump(math.MinInt))); f != fault(api.ErrEnd, 1) || len(got) != 0 {
		t.Errorf("a jump to nowhere: %v, fault %v", got, f)
	}
	if got, f := Heights(method(self, send(math.MaxInt), back)); f != fault(api.ErrFit, 1) || len(got) != 0 {
		t.Errorf("a send of more arguments than there are: %v, fault %v", got, f)
	}
	for _, m := range []api.Method{{}, {Code: []api.Instr{}}} {
		if got, _ := Heights(m); len(got) != 0 {
			t.Errorf("without instructions: %v", got)
		}
	}
}

// Instructions in the spare room behind a method's code are none of it.
func TestC1SpareRoom(t *testing.T) {
	code := []api.Instr{self, back, jump(0)}
	m := method(code[:1]...)
	got, f := Heights(m)
	if f != fault(api.ErrEnd, 1) || len(got) != 0 {
		t.Errorf("what stands in the spare room is run: %v, fault %v", got, f)
	}
	if f := Check(world(t), 4, m); f != fault(api.ErrEnd, 1) {
		t.Errorf("what stands in the spare room is run: fault %v", f)
	}
	if f := Check(world(t), 4, method(append(code[:0:0], jump(1), back)[:1]...)); f != fault(api.ErrRange, 0) {
		t.Errorf("a jump to the spare room: fault %v", f)
	}
	if !reflect.DeepEqual(code, []api.Instr{self, back, jump(0)}) {
		t.Errorf("what was handed in is changed: %v", code)
	}
	got, _ = Heights(method(code[:2]...))
	again, _ := Heights(method(code[:2]...))
	got[0], got[1] = 7, 7
	if !slices.Equal(again, []int{0, 1}) {
		t.Errorf("two answers share memory: %v", again)
	}
}

func TestC2Right(t *testing.T) {
	w := world(t)
	for _, m := range []api.Method{
		method(self, back),
		{Name: "abcdefghijkl", Args: api.MaxArgs, Temps: api.MaxTemps, Code: []api.Instr{in(api.OpArg, 3), in(api.OpSet, 5), in(api.OpTemp, 5), back}},
		{Name: "~", Code: []api.Instr{null, back}},
		method(append(times(api.MaxCode-2, jump(api.MaxCode-2)), self, back)...),
		method(in(api.OpInt, api.MaxNumber), in(api.OpInt, -api.MaxNumber), send(1), back),
	} {
		for c := range w.Classes {
			if f := Check(w, c, m); f != right {
				t.Errorf("Check of %v in class %d: fault %v", m, c, f)
			}
		}
	}
	w.Epoch = -5
	w.Heap = []api.Object{{Class: -1}}
	if f := Check(w, 4, method(self, back)); f != right {
		t.Errorf("neither objects nor the epoch matter: fault %v", f)
	}
}

func TestC2Method(t *testing.T) {
	w, fine := world(t), []api.Instr{self, back}
	for _, x := range []struct {
		c    int
		m    api.Method
		want api.Errno
	}{
		{-1, method(fine...), api.ErrNone},
		{6, method(fine...), api.ErrNone},
		{math.MinInt, method(fine...), api.ErrNone},
		{math.MaxInt, method(fine...), api.ErrNone},
		{4, api.Method{Code: fine}, api.ErrName},
		{4, api.Method{Name: "a b", Code: fine}, api.ErrName},
		{4, api.Method{Name: "abcdefghijklm", Code: fine}, api.ErrName},
		{4, api.Method{Name: "\x7f", Code: fine}, api.ErrName},
		{4, api.Method{Name: "m", Args: -1, Code: fine}, api.ErrRange},
		{4, api.Method{Name: "m", Args: 4, Code: fine}, api.OK},
		{4, api.Method{Name: "m", Args: 5, Code: fine}, api.ErrRange},
		{4, api.Method{Name: "m", Args: math.MinInt, Code: fine}, api.ErrRange},
		{4, api.Method{Name: "m", Temps: -1, Code: fine}, api.ErrRange},
		{4, api.Method{Name: "m", Temps: 6, Code: fine}, api.OK},
		{4, api.Method{Name: "m", Temps: 7, Code: fine}, api.ErrRange},
		{4, api.Method{Name: "m", Temps: math.MaxInt, Code: fine}, api.ErrRange},
		{4, api.Method{Name: "m", Args: 1, Prim: api.PrimAdd}, api.ErrKind},
		{4, api.Method{Name: "m", Prim: api.PrimSame, Code: fine}, api.ErrKind},
		{4, api.Method{Name: "m", Prim: api.PrimSame + 1, Code: fine}, api.ErrKind},
		{4, api.Method{Name: "m", Prim: -1, Code: fine}, api.ErrKind},
		{api.ClassInt, w.Classes[api.ClassInt].Methods[0], api.ErrKind},
		{4, method(), api.ErrMany},
		{4, api.Method{Name: "m", Code: []api.Instr{}}, api.ErrMany},
		{4, method(append(times(59, jump(60)), self, back)...), api.ErrMany},
		// Where several fit, the first one is told.
		{6, api.Method{Args: -1, Prim: 1}, api.ErrNone},
		{4, api.Method{Args: -1, Prim: 1}, api.ErrName},
		{4, api.Method{Name: "m", Temps: -1, Prim: 1}, api.ErrRange},
		{4, api.Method{Name: "m", Prim: 1}, api.ErrKind},
		{4, api.Method{Name: "m", Prim: 1, Code: []api.Instr{pop}}, api.ErrKind},
		{4, method(times(61, in(0, 0))...), api.ErrMany},
	} {
		if f := Check(w, x.c, x.m); f != fault(x.want, 0) {
			t.Errorf("Check of %v in class %d: fault %v, not %d", x.m, x.c, f, x.want)
		}
	}
	if f := Check(api.World{}, 0, method(fine...)); f != fault(api.ErrNone, 0) {
		t.Errorf("Check without classes: fault %v", f)
	}
}

// checkSecond has x looked at as instruction 1 of a method that is right otherwise.
func checkSecond(t *testing.T, c int, x api.Instr, want api.Errno) {
	t.Helper()
	// Behind the jump nothing leads to x, so that no height is wrong.
	got := Check(world(t), c, method(jump(2), x, self, back))
	if want == api.OK && got != right || want != api.OK && got != fault(want, 1) {
		t.Errorf("instruction %v, in class %d: fault %v, not %d", x, c, got, want)
	}
}

func TestC2Kind(t *testing.T) {
	for op := api.OpSelf; op <= api.OpBack; op++ {
		x := api.Instr{Op: op}
		if op == api.OpSend {
			x.Name = "x"
		}
		checkSecond(t, 4, x, api.OK)
	}
	for _, op := range []int{math.MinInt, -1, 0, api.OpGuard, api.OpOf, api.OpTo, api.OpCount, 22, math.MaxInt} {
		checkSecond(t, 4, api.Instr{Op: op}, api.ErrKind)
		checkSecond(t, 4, api.Instr{Op: op, A: -1, B: 1, C: 1, Name: "x"}, api.ErrKind)
	}
}

func TestC2Range(t *testing.T) {
	for _, x := range []struct{ c, op, low, high int }{
		{4, api.OpArg, 0, 1},
		{4, api.OpTemp, 0, 2},
		{4, api.OpSet, 0, 2},
		{4, api.OpSlot, 0, 1},
		{5, api.OpSlot, 0, 2},
		{4, api.OpPut, 0, 1},
		{5, api.OpPut, 0, 2},
		{4, api.OpJump, 0, 3},
		{4, api.OpElse, 0, 3},
		{4, api.OpSend, 0, api.MaxArgs},
		{4, api.OpInt, -api.MaxNumber, api.MaxNumber},
		{4, api.OpNew, 4, 5},
		{4, api.OpSelf, 0, 0},
		{4, api.OpNil, 0, 0},
		{4, api.OpFalse, 0, 0},
		{4, api.OpTrue, 0, 0},
		{4, api.OpPop, 0, 0},
		{4, api.OpDup, 0, 0},
		{4, api.OpBack, 0, 0},
	} {
		name := ""
		if x.op == api.OpSend {
			name = "x"
		}
		for _, a := range []int{x.low, x.high, (x.low + x.high) / 2} {
			checkSecond(t, x.c, api.Instr{Op: x.op, A: a, Name: name}, api.OK)
		}
		for _, a := range []int{x.low - 1, x.high + 1, math.MinInt, math.MaxInt} {
			checkSecond(t, x.c, api.Instr{Op: x.op, A: a, Name: name}, api.ErrRange)
			checkSecond(t, x.c, api.Instr{Op: x.op, A: a, B: 1, C: 1, Name: " "}, api.ErrRange)
		}
	}
}

func TestC2RangeOfNone(t *testing.T) {
	w := world(t)
	for _, x := range []api.Instr{in(api.OpArg, 0), in(api.OpTemp, 0), in(api.OpSet, 0), in(api.OpSlot, 0), in(api.OpPut, 0)} {
		m := api.Method{Name: "m", Code: []api.Instr{jump(2), x, self, back}}
		if f := Check(w, api.ClassObject, m); f != fault(api.ErrRange, 1) {
			t.Errorf("%v, where there is none: fault %v", x, f)
		}
	}
}

func TestC2RangeOfClasses(t *testing.T) {
	for c, want := range []api.Errno{api.OK, api.ErrRange, api.ErrRange, api.ErrRange, api.OK, api.OK, api.ErrRange} {
		checkSecond(t, 4, in(api.OpNew, c), want)
	}
	if f := Check(class.New(), 0, method(in(api.OpNew, 4), back)); f != fault(api.ErrRange, 0) {
		t.Errorf("a class that is not made yet: fault %v", f)
	}
	one := api.World{Classes: []api.Class{{Name: "A", Super: -1, Slots: 1}}}
	for a, want := range []api.Errno{api.OK, api.ErrRange, api.ErrRange, api.ErrRange, api.ErrRange} {
		if f := Check(one, 0, method(in(api.OpNew, a), back)); f != fault(want, 0) {
			t.Errorf("class %d of one class: fault %v", a, f)
		}
	}
}

// A class above itself has as many slots as chapter 2 tells.
func TestC2RangeInRings(t *testing.T) {
	w := api.World{Classes: []api.Class{{Name: "A", Slots: 3}}}
	for a, want := range []api.Errno{0: api.OK, 5: api.OK, 6: api.ErrRange} {
		if f := Check(w, 0, method(in(api.OpSlot, a), back)); f != fault(want, 0) {
			t.Errorf("slot %d of six: fault %v", a, f)
		}
	}
}

func TestC2Form(t *testing.T) {
	for op := api.OpSelf; op <= api.OpBack; op++ {
		name := ""
		if op == api.OpSend {
			name = "x"
		}
		for _, x := range []api.Instr{
			{Op: op, B: 1, Name: name},
			{Op: op, B: -1, Name: name},
			{Op: op, C: 1, Name: name},
			{Op: op, C: math.MinInt, Name: name},
			{Op: op, B: 1, C: 1, Name: name},
			{Op: op, B: 1, C: -1, Name: name},
		} {
			checkSecond(t, 4, x, api.ErrForm)
		}
		for _, s := range []string{"x", " ", "abcdefghijklm", "\xff", ""} {
			want := api.ErrForm
			if s == name {
				want = api.OK
			}
			checkSecond(t, 4, api.Instr{Op: op, Name: s}, want)
		}
	}
	checkSecond(t, 4, api.Instr{Op: api.OpSend, Name: "abcdefghijkl"}, api.OK)
	checkSecond(t, 4, api.Instr{Op: api.OpSend, Name: "~!"}, api.OK)
}

// Instructions are looked at one by one, each for all that may be wrong with it, and all of them ahead of heights.
func TestC2Order(t *testing.T) {
	form := api.Instr{Op: api.OpSelf, B: 1}
	for _, x := range []struct {
		code []api.Instr
		want api.Fault
	}{
		{[]api.Instr{form, in(api.OpSelf, 1), in(0, 0)}, fault(api.ErrForm, 0)},
		{[]api.Instr{self, in(api.OpSelf, 1), in(0, 0), form}, fault(api.ErrRange, 1)},
		{[]api.Instr{self, back, in(18, 0), form}, fault(api.ErrKind, 2)},
		{[]api.Instr{pop, self, form}, fault(api.ErrForm, 2)},
		{[]api.Instr{pop, self, in(api.OpJump, 3)}, fault(api.ErrRange, 2)},
		{append(times(59, self), in(0, 0)), fault(api.ErrKind, 59)},
		{times(60, self), fault(api.ErrMuch, 12)},
		{append(times(59, jump(59)), self), fault(api.ErrEnd, 60)},
	} {
		if f := Check(world(t), 4, method(x.code...)); f != x.want {
			t.Errorf("Check of %v: fault %v, not %v", x.code, f, x.want)
		}
	}
}

// Check tells Heights' fault, where nothing else is wrong.
func TestC2Heights(t *testing.T) {
	for _, code := range [][]api.Instr{
		{self, back},
		{self},
		{back},
		{self, self, back},
		{no, orElse(3), null, self, back},
		{self, send(1), back},
		times(13, self),
		{jump(0)},
	} {
		_, want := Heights(method(code...))
		if f := Check(world(t), 5, method(code...)); f != want {
			t.Errorf("Check of %v: fault %v, not %v", code, f, want)
		}
	}
}

// The document's example 3: a method of one instruction, that pushes 5, ends too soon, at 1.
func TestC2Example(t *testing.T) {
	if f := Check(class.New(), api.ClassObject, method(in(api.OpInt, 5))); f != fault(api.ErrEnd, 1) {
		t.Errorf("fault %v", f)
	}
}

func TestC2OnlyReads(t *testing.T) {
	w, m := world(t), method(self, send(0), back)
	Check(w, 4, m)
	if !reflect.DeepEqual(w, world(t)) || !reflect.DeepEqual(m, method(self, send(0), back)) {
		t.Errorf("Check changed what it was handed: %v, %v", w, m)
	}
}

func TestC2NoPanic(t *testing.T) {
	w := world(t)
	w.Classes[5].Super = 5
	for _, n := range []int{math.MinInt, -1, 0, 1, 4, math.MaxInt} {
		for op := -1; op <= api.OpCount+1; op++ {
			Check(w, 5, api.Method{Name: "m", Args: 4, Temps: 6, Code: []api.Instr{in(op, n), in(n, op), in(op, n)}})
			Check(w, n, api.Method{Name: "m", Code: []api.Instr{in(op, n)}})
			Check(w, op, api.Method{Name: "m", Args: n, Temps: n, Prim: n})
		}
	}
}
