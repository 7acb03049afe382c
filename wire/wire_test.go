package wire

import (
	"bytes"
	"math"
	"reflect"
	"slices"
	"strconv"
	"strings"
	"testing"

	"quickchange/api"
	"quickchange/class"
)

const newText = "0 4 Object -1 0 0 Nil 0 0 0 Bool 0 0 0 Int 0 0 5 * 1 0 3 0 + 1 0 1 0 - 1 0 2 0 < 1 0 4 0 = 1 0 5 0 0 "

// boxText is the text of boxes.
const boxText = "7 6 Object -1 0 0 Nil 0 0 1 no 0 0 0 2 7 0 17 0 Bool 0 0 0 Int 0 0 5 * 1 0 3 0 + 1 0 1 0 - 1 0 2 0 < 1 0 4 0 = 1 0 5 0 " +
	"Box 0 1 2 add 1 2 0 6 4 0 2 0 14 1 + 9 0 5 -12 17 0 get 0 0 0 2 4 0 17 0 Odd 4 2 0 " +
	"3 4 1 3 -20 0 0 5 3 4 0 2 0 0 0 "

func in(op, a int) api.Instr { return api.Instr{Op: op, A: a} }

func send(name string, args int) api.Instr { return api.Instr{Op: api.OpSend, A: args, Name: name} }

func num(n int) api.Value { return api.Value{Kind: api.ValInt, N: n} }

func ref(n int) api.Value { return api.Value{Kind: api.ValRef, N: n} }

func method(name string) api.Method {
	return api.Method{Name: name, Code: []api.Instr{in(api.OpSelf, 0), in(api.OpBack, 0)}}
}

// boxes has all that a world may have, with marks in the spare room behind its lists, that no call may change, nor tell.
func boxes() api.World {
	add := []api.Instr{in(api.OpSlot, 0), in(api.OpArg, 0), send("+", 1), in(api.OpPop, 0), in(api.OpInt, -12), in(api.OpBack, 0), in(77, 77)}
	methods := []api.Method{{Name: "add", Args: 1, Temps: 2, Code: add[:6]}, {Name: "get", Code: []api.Instr{in(api.OpSlot, 0), in(api.OpBack, 0)}}, {Name: "get"}}
	classes := append(class.New().Classes,
		api.Class{Name: "Box", Slots: 1, Methods: methods[:2]},
		api.Class{Name: "Odd", Super: 4, Slots: 2},
		api.Class{Name: "Odd", Super: 77})
	classes[api.ClassNil].Methods = []api.Method{{Name: "no", Code: []api.Instr{in(api.OpFalse, 0), in(api.OpBack, 0)}}}
	slots := []api.Value{ref(0), {Kind: api.ValTrue}, {}, {Kind: 77}}
	heap := []api.Object{{Class: 4, Slots: []api.Value{num(-20)}}, {Class: 0}, {Class: 5, Slots: slots[:3]}, {Class: 77}}
	return api.World{Classes: classes[:6], Heap: heap[:3], Epoch: 7}
}

// same holds worlds against each other by their entries: copies have neither spare room nor nil lists.
func same(a, b api.World) bool {
	return reflect.DeepEqual(class.Own(a), class.Own(b))
}

// zero: whether x is what stands beside an error.
func zero(x api.World) bool {
	return len(x.Classes) == 0 && len(x.Heap) == 0 && x.Epoch == 0
}

// change is something done to a right world, and what Right must tell then.
type change struct {
	name string
	do   func(x *api.World)
	want api.Errno
}

func checkChanges(t *testing.T, l []change) {
	t.Helper()
	for _, c := range l {
		x := boxes()
		c.do(&x)
		before := class.Own(x)
		if got := Right(x); got != c.want {
			t.Errorf("%s: Right is %d, not %d", c.name, got, c.want)
		}
		if !same(x, before) {
			t.Errorf("%s: Right changed what it was handed", c.name)
		}
	}
}

func TestD1Right(t *testing.T) {
	for _, x := range []api.World{class.New(), boxes()} {
		if got := Right(x); got != api.OK {
			t.Errorf("Right of %v is %d", x, got)
		}
	}
	empty := class.New()
	for n := range empty.Classes[:3] {
		empty.Classes[n].Methods = []api.Method{}
	}
	empty.Heap = []api.Object{}
	if got := Right(empty); got != api.OK {
		t.Errorf("Right of lists without entries is %d", got)
	}
}

// addClasses has so many classes in all.
func addClasses(x *api.World, all int) {
	x.Classes = slices.Clip(x.Classes)
	for n := len(x.Classes); n < all; n++ {
		x.Classes = append(x.Classes, api.Class{Name: "C" + strconv.Itoa(n)})
	}
}

func TestD1Many(t *testing.T) {
	checkChanges(t, []change{
		{"nothing at all", func(x *api.World) { *x = api.World{} }, api.ErrMany},
		{"three classes", func(x *api.World) { x.Classes = x.Classes[:3] }, api.ErrMany},
		{"four classes", func(x *api.World) { x.Classes, x.Heap = x.Classes[:4], nil }, api.OK},
		{"as many classes as may be", func(x *api.World) { addClasses(x, api.MaxClasses) }, api.OK},
		{"one class more", func(x *api.World) { addClasses(x, api.MaxClasses+1) }, api.ErrMany},
		{"as many objects as may be", func(x *api.World) { x.Heap = make([]api.Object, api.MaxHeap) }, api.OK},
		{"one object more", func(x *api.World) { x.Heap = make([]api.Object, api.MaxHeap+1) }, api.ErrMany},
		{"too many objects, and an epoch", func(x *api.World) { x.Heap, x.Epoch = make([]api.Object, api.MaxHeap+1), -1 }, api.ErrMany},
	})
}

func TestD1Epoch(t *testing.T) {
	for n, want := range map[int]api.Errno{0: api.OK, api.MaxNumber: api.OK, -1: api.ErrRange, api.MaxNumber + 1: api.ErrRange, math.MinInt: api.ErrRange, math.MaxInt: api.ErrRange} {
		checkChanges(t, []change{{"epoch " + strconv.Itoa(n), func(x *api.World) { x.Epoch = n }, want}})
	}
	checkChanges(t, []change{{"an epoch, and a name", func(x *api.World) { x.Epoch, x.Classes[0].Name = -1, "" }, api.ErrRange}})
}

func TestD1Names(t *testing.T) {
	for _, s := range []string{"", "a b", "abcdefghijklm", "\x7f", "\n", "é", "Odd", "Object", "Int"} {
		checkChanges(t, []change{{"class 4 is " + s, func(x *api.World) { x.Classes[4].Name = s }, api.ErrName}})
	}
	for _, s := range []string{"abcdefghijkl", "~", "!", "12", "odd", "add"} {
		checkChanges(t, []change{{"class 4 is " + s, func(x *api.World) { x.Classes[4].Name = s }, api.OK}})
	}
	for n := range api.ClassFirst {
		for _, s := range []string{"Other", "", "object", class.New().Classes[(n+1)%4].Name} {
			checkChanges(t, []change{{strconv.Itoa(n) + " is " + s, func(x *api.World) { x.Classes[n].Name = s }, api.ErrName}})
		}
	}
	checkChanges(t, []change{
		{"the first ones in another order", func(x *api.World) { x.Classes[1], x.Classes[2] = x.Classes[2], x.Classes[1] }, api.ErrName},
	})
}

func TestD1Super(t *testing.T) {
	for n := range api.ClassFirst {
		right := class.New().Classes[n].Super
		for _, super := range []int{-2, -1, 0, 1, 4, 5, math.MinInt, math.MaxInt} {
			want := api.ErrRange
			if super == right {
				want = api.OK
			}
			checkChanges(t, []change{{strconv.Itoa(n) + " in " + strconv.Itoa(super), func(x *api.World) { x.Classes[n].Super = super }, want}})
		}
	}
	for super, want := range map[int]api.Errno{-1: api.ErrRange, 0: api.OK, 1: api.ErrRange, 2: api.ErrRange, 3: api.ErrRange, 4: api.OK, 5: api.ErrRange, 6: api.ErrRange, math.MinInt: api.ErrRange, math.MaxInt: api.ErrRange} {
		// Without slots, so that there are not too many of them, however often a class stands above itself.
		checkChanges(t, []change{{"5 in " + strconv.Itoa(super), func(x *api.World) { x.Classes[5].Super, x.Classes[5].Slots, x.Heap = super, 0, nil }, want}})
	}
	for super, want := range map[int]api.Errno{0: api.OK, 4: api.ErrRange, 5: api.ErrRange} {
		checkChanges(t, []change{{"4 in " + strconv.Itoa(super), func(x *api.World) {
			x.Classes[4] = api.Class{Name: "Box", Super: super}
			x.Classes[5].Super, x.Heap = 0, nil
		}, want}})
	}
}

func TestD1Slots(t *testing.T) {
	for n := range api.ClassFirst {
		for _, slots := range []int{-1, 1, 6, math.MinInt} {
			checkChanges(t, []change{{strconv.Itoa(n) + " has slots", func(x *api.World) { x.Classes[n].Slots = slots }, api.ErrRange}})
		}
	}
	for slots, want := range map[int]api.Errno{-1: api.ErrRange, 0: api.OK, 5: api.OK, 6: api.ErrRange, 7: api.ErrRange, math.MinInt: api.ErrRange, math.MaxInt: api.ErrRange} {
		checkChanges(t, []change{{"5 has so many: " + strconv.Itoa(slots), func(x *api.World) { x.Classes[5].Slots, x.Heap = slots, nil }, want}})
	}
	for slots, want := range map[int]api.Errno{6: api.OK, 7: api.ErrRange, -1: api.ErrRange} {
		checkChanges(t, []change{{"4 has so many: " + strconv.Itoa(slots), func(x *api.World) { x.Classes[4].Slots, x.Classes[5].Slots, x.Heap = slots, 0, nil }, want}})
	}
}

// addMethods has class c have so many methods.
func addMethods(x *api.World, c, all int) {
	x.Classes[c].Methods = nil
	for n := range all {
		x.Classes[c].Methods = append(x.Classes[c].Methods, method("m"+strconv.Itoa(10+n)))
	}
}

func TestD1Methods(t *testing.T) {
	checkChanges(t, []change{
		{"as many as may be", func(x *api.World) { addMethods(x, 5, api.MaxMethods) }, api.OK},
		{"one more", func(x *api.World) { addMethods(x, 5, api.MaxMethods+1) }, api.ErrMany},
		{"too many, the first one without a name", func(x *api.World) {
			addMethods(x, 5, api.MaxMethods+1)
			x.Classes[5].Methods[0].Name = ""
		}, api.ErrMany},
		{"the same name twice", func(x *api.World) { x.Classes[4].Methods[1].Name = "add" }, api.ErrName},
		{"names fall", func(x *api.World) { x.Classes[4].Methods[0].Name = "gets" }, api.ErrName},
		{"names rise by bytes", func(x *api.World) { x.Classes[4].Methods[0].Name = "Zoo" }, api.OK},
		{"a shorter name ahead", func(x *api.World) { x.Classes[4].Methods[0].Name = "ge" }, api.OK},
		{"another class's name", func(x *api.World) { x.Classes[5].Methods = []api.Method{method("add")} }, api.OK},
		{"names fall, and it is not right", func(x *api.World) {
			x.Classes[4].Methods[1].Name, x.Classes[4].Methods[1].Args = "a", -1
		}, api.ErrName},
		{"the one ahead is not right, and names fall", func(x *api.World) {
			x.Classes[4].Methods[0].Args, x.Classes[4].Methods[1].Name = -1, "a"
		}, api.ErrRange},
	})
}

// What Check tells is told, of whichever class the method is.
func TestD1Check(t *testing.T) {
	send := in(api.OpSend, 0)
	for _, x := range []struct {
		m    api.Method
		want api.Errno
	}{
		{method("zz"), api.OK},
		{method("abcdefghijklm"), api.ErrName},
		{api.Method{Name: "zz", Args: api.MaxArgs + 1, Code: method("").Code}, api.ErrRange},
		{api.Method{Name: "zz", Args: 1, Prim: api.PrimAdd}, api.ErrKind},
		{api.Method{Name: "zz"}, api.ErrMany},
		{api.Method{Name: "zz", Code: []api.Instr{in(api.OpGuard, 0)}}, api.ErrKind},
		{api.Method{Name: "zz", Code: []api.Instr{in(api.OpSlot, 3), in(api.OpBack, 0)}}, api.ErrRange},
		{api.Method{Name: "zz", Code: []api.Instr{in(api.OpNew, 6), in(api.OpBack, 0)}}, api.ErrRange},
		{api.Method{Name: "zz", Code: []api.Instr{in(api.OpSelf, 0), send, in(api.OpBack, 0)}}, api.ErrForm},
		{api.Method{Name: "zz", Code: []api.Instr{in(api.OpInt, 5)}}, api.ErrEnd},
		{api.Method{Name: "zz", Code: []api.Instr{in(api.OpPop, 0)}}, api.ErrFit},
		{api.Method{Name: "zz", Code: slices.Repeat([]api.Instr{in(api.OpNil, 0)}, 20)}, api.ErrMuch},
	} {
		for c := range 6 {
			checkChanges(t, []change{{x.m.Name + " of class " + strconv.Itoa(c), func(w *api.World) {
				l := slices.Clip(w.Classes[c].Methods)
				if strings.HasPrefix(x.m.Name, "a") {
					l = nil
				}
				w.Classes[c].Methods = append(l, x.m)
			}, x.want}})
		}
	}
	fits := api.Method{Name: "get", Code: []api.Instr{in(api.OpSlot, 2), in(api.OpBack, 0)}}
	checkChanges(t, []change{
		{"a slot of the class's own", func(x *api.World) { x.Classes[5].Methods = []api.Method{fits} }, api.OK},
		{"a slot of a class below it", func(x *api.World) { x.Classes[4].Methods[1] = fits }, api.ErrRange},
		{"an object of a class behind it", func(x *api.World) { x.Classes[4].Methods[1].Code[0] = in(api.OpNew, 5) }, api.OK},
	})
}

func TestD1Primitives(t *testing.T) {
	prims := class.New().Classes[api.ClassInt].Methods
	own := func(do func(l []api.Method) []api.Method) func(x *api.World) {
		return func(x *api.World) { x.Classes[api.ClassInt].Methods = do(x.Classes[api.ClassInt].Methods) }
	}
	checkChanges(t, []change{
		{"none", own(func(l []api.Method) []api.Method { return nil }), api.OK},
		{"not the first one", own(func(l []api.Method) []api.Method { return l[1:] }), api.OK},
		{"not the last one", own(func(l []api.Method) []api.Method { return l[:4] }), api.OK},
		{"code instead of one", own(func(l []api.Method) []api.Method { l[1] = method("+"); return l }), api.OK},
		{"others beside them", own(func(l []api.Method) []api.Method { return append(l, method("a"), method("b"), method("c")) }), api.OK},
		{"too many beside them", own(func(l []api.Method) []api.Method {
			return append(l, method("a"), method("b"), method("c"), method("d"))
		}), api.ErrMany},
		{"another primitive", own(func(l []api.Method) []api.Method { l[0].Prim = api.PrimSub; return l }), api.ErrKind},
		{"another name", own(func(l []api.Method) []api.Method { l[4].Name = "=="; return l }), api.ErrKind},
		{"no arguments", own(func(l []api.Method) []api.Method { l[1].Args = 0; return l }), api.ErrKind},
		{"temporaries", own(func(l []api.Method) []api.Method { l[1].Temps = 1; return l }), api.ErrKind},
		{"code too", own(func(l []api.Method) []api.Method { l[1].Code = method("").Code; return l }), api.ErrKind},
		{"code of no instructions", own(func(l []api.Method) []api.Method { l[1].Code = []api.Instr{}; return l }), api.OK},
		{"neither primitive nor code", own(func(l []api.Method) []api.Method { l[1].Prim = 0; return l }), api.ErrMany},
		{"no primitive that there is", own(func(l []api.Method) []api.Method { l[1].Prim = 6; return l }), api.ErrKind},
		{"one twice", own(func(l []api.Method) []api.Method { l[1] = l[0]; return l }), api.ErrName},
		{"in another order", own(func(l []api.Method) []api.Method { l[0], l[1] = l[1], l[0]; return l }), api.ErrName},
	})
	for _, c := range []int{0, 1, 2, 4, 5} {
		checkChanges(t, []change{{"of another class", func(x *api.World) { x.Classes[c].Methods = prims[1:2] }, api.ErrKind}})
	}
}

func TestD1Objects(t *testing.T) {
	for n, want := range map[int]api.Errno{-1: api.ErrFit, 0: api.OK, 1: api.ErrFit, 2: api.ErrFit, 3: api.ErrFit, 4: api.ErrFit, 6: api.ErrFit, math.MinInt: api.ErrFit, math.MaxInt: api.ErrFit} {
		checkChanges(t, []change{{"without slots, of class " + strconv.Itoa(n), func(x *api.World) { x.Heap[1].Class = n }, want}})
	}
	for n, want := range map[int]api.Errno{0: api.ErrFit, 1: api.ErrFit, 2: api.ErrFit, 3: api.OK, 4: api.ErrFit, 7: api.ErrFit} {
		checkChanges(t, []change{{"slots of class 5: " + strconv.Itoa(n), func(x *api.World) { x.Heap[2].Slots = make([]api.Value, n) }, want}})
	}
	checkChanges(t, []change{
		{"an `Object` with a slot", func(x *api.World) { x.Heap[1].Slots = make([]api.Value, 1) }, api.ErrFit},
		{"no slots, empty", func(x *api.World) { x.Heap[1].Slots = []api.Value{} }, api.OK},
		{"too many slots, and a wrong one", func(x *api.World) { x.Heap[0].Slots = []api.Value{{Kind: 9}, {}} }, api.ErrFit},
		{"a wrong slot, and an object behind it", func(x *api.World) { x.Heap[0].Slots[0], x.Heap[1].Class = api.Value{Kind: 9}, 1 }, api.ErrKind},
		{"an object, and a wrong slot behind it", func(x *api.World) { x.Heap[1].Class, x.Heap[2].Slots[0] = 1, api.Value{Kind: 9} }, api.ErrFit},
	})
}

func TestD1Values(t *testing.T) {
	for _, x := range []struct {
		v    api.Value
		want api.Errno
	}{
		{api.Value{}, api.OK},
		{api.Value{Kind: api.ValFalse}, api.OK},
		{api.Value{Kind: api.ValTrue, N: 1}, api.ErrForm},
		{api.Value{Kind: api.ValNil, N: -1}, api.ErrForm},
		{num(api.MaxNumber), api.OK},
		{num(-api.MaxNumber), api.OK},
		{num(api.MaxNumber + 1), api.ErrRange},
		{num(-api.MaxNumber - 1), api.ErrRange},
		{ref(0), api.OK},
		{ref(2), api.OK},
		{ref(3), api.ErrNone},
		{ref(-1), api.ErrNone},
		{api.Value{Kind: 5}, api.ErrKind},
		{api.Value{Kind: -1}, api.ErrKind},
	} {
		for k := range 3 {
			checkChanges(t, []change{{"a slot", func(w *api.World) { w.Heap[2].Slots[k] = x.v }, x.want}})
		}
	}
	checkChanges(t, []change{{"two of them", func(x *api.World) { x.Heap[2].Slots[1], x.Heap[2].Slots[2] = ref(9), num(math.MaxInt) }, api.ErrNone}})
}

// Where several errors fit, the first one is told, in the order in which the promise goes through a world.
func TestD1Order(t *testing.T) {
	checkChanges(t, []change{
		{"a class's super, and a name behind it", func(x *api.World) { x.Classes[4].Super, x.Classes[5].Name = 1, "" }, api.ErrRange},
		{"a class's name, and its super", func(x *api.World) { x.Classes[4].Name, x.Classes[4].Super = "", 1 }, api.ErrName},
		{"a name that is taken, and its slots", func(x *api.World) { x.Classes[5].Name, x.Classes[5].Slots = "Box", -1 }, api.ErrName},
		{"methods, and a class behind them", func(x *api.World) { x.Classes[4].Methods[0].Code, x.Classes[5].Name = nil, "" }, api.ErrName},
		{"methods, and slots in all behind them", func(x *api.World) { x.Classes[4].Methods[0].Code, x.Classes[5].Slots = nil, 6 }, api.ErrMany},
		{"slots in all, and methods of that class", func(x *api.World) {
			x.Classes[5].Slots, x.Classes[5].Methods = 6, make([]api.Method, 9)
		}, api.ErrRange},
		{"methods, and those of a class behind them", func(x *api.World) {
			x.Classes[1].Methods[0].Prim, x.Classes[4].Methods = 1, make([]api.Method, 9)
		}, api.ErrKind},
		{"an object, and a method", func(x *api.World) { x.Heap[0].Class, x.Classes[5].Methods = 1, []api.Method{{}} }, api.ErrName},
	})
}

func TestD1OnlyReads(t *testing.T) {
	x := boxes()
	Right(x)
	Bytes(x)
	if !reflect.DeepEqual(x, boxes()) {
		t.Errorf("what was handed in is changed: %v", x)
	}
	spare := []bool{
		x.Classes[:7][6].Super == 77,
		x.Classes[4].Methods[:3][2].Name == "get",
		x.Classes[4].Methods[0].Code[:7][6] == in(77, 77),
		x.Heap[:4][3].Class == 77,
		x.Heap[2].Slots[:4][3].Kind == 77,
	}
	if slices.Contains(spare, false) {
		t.Errorf("spare room of what was handed in is changed: %v", spare)
	}
}

// wild has numbers and names, in all places, that no right world has.
func wild(n int, name string) api.World {
	m := api.Method{Name: name, Args: n, Temps: n, Prim: n, Code: []api.Instr{{Op: n, A: n, B: n, C: n, Name: name}, {Op: api.OpSend, A: n, Name: name}}}
	c := api.Class{Name: name, Super: n, Slots: n, Methods: []api.Method{m, m}}
	o := api.Object{Class: n, Slots: []api.Value{{Kind: n, N: n}, {Kind: api.ValRef, N: n}}}
	return api.World{Classes: []api.Class{c, c, c, c, c, c}, Heap: []api.Object{o, o}, Epoch: n}
}

// Of worlds that are not right Bytes promises nothing, but that nothing panics, and what it tells is never read as right.
func TestD1NoPanic(t *testing.T) {
	for _, n := range []int{math.MinInt, -1, 0, 1, 4, 5, 14, api.MaxNumber, math.MaxInt} {
		for _, name := range []string{"", " ", "x", "0", "\xff", strings.Repeat("long", 1000)} {
			x := wild(n, name)
			if Right(x) == api.OK {
				t.Errorf("Right of %v", x)
			}
			if got, err := Parse(Bytes(x)); err == api.OK || !zero(got) {
				t.Errorf("Parse of the text of %v is %v, %d", x, got, err)
			}
			x.Epoch = 0
			for k, c := range class.New().Classes {
				x.Classes[k] = c
			}
			x.Classes[5].Name = "y"
			if Right(x) == api.OK {
				t.Errorf("Right of %v", x)
			}
			Bytes(x)
		}
	}
}

func TestD2Bytes(t *testing.T) {
	for _, x := range []struct {
		w    api.World
		want string
	}{
		{class.New(), newText},
		{boxes(), boxText},
	} {
		if got := string(Bytes(x.w)); got != x.want {
			t.Errorf("Bytes is %q, not %q", got, x.want)
		}
	}
}

// The document's example 4: a new world's text has four classes, and no objects.
func TestD2Example(t *testing.T) {
	got := strings.Split(string(Bytes(class.New())), " ")
	if n := len(got); got[1] != "4" || got[n-2] != "0" || got[n-1] != "" {
		t.Errorf("Bytes of a new world is %q", got)
	}
}

// full is as large as a right world may be.
func full() api.World {
	x := class.New()
	addClasses(&x, api.MaxClasses)
	x.Epoch = api.MaxNumber
	for n := range x.Classes {
		if n != api.ClassInt {
			addMethods(&x, n, api.MaxMethods)
		}
		for k := range x.Classes[n].Methods {
			if n != api.ClassInt {
				x.Classes[n].Methods[k].Code = append(slices.Repeat([]api.Instr{in(api.OpJump, 58)}, 58), method("").Code...)
			}
		}
	}
	x.Classes[11].Slots = api.MaxSlots
	slots := slices.Repeat([]api.Value{num(-api.MaxNumber)}, api.MaxSlots)
	x.Heap = slices.Repeat([]api.Object{{Class: 11, Slots: slots}}, api.MaxHeap)
	return x
}

// What is saved is loaded.
func TestD2BackAgain(t *testing.T) {
	for _, x := range []api.World{class.New(), boxes(), full()} {
		b := Bytes(x)
		got, err := Parse(b)
		if err != api.OK || !same(got, x) {
			t.Errorf("Parse is %v, %d, not %v", got, err, x)
		}
		if again := Bytes(got); !bytes.Equal(again, b) {
			t.Errorf("Bytes is %q, then %q", b, again)
		}
	}
}

// All ops that a method may have come back, and OpSend's name with them.
func TestD2Ops(t *testing.T) {
	for op := api.OpSelf; op <= api.OpBack; op++ {
		x, i := boxes(), in(op, 0)
		if op == api.OpSend {
			i = send("a~!", 4)
		}
		code := []api.Instr{in(api.OpJump, 2), i, in(api.OpSelf, 0), in(api.OpBack, 0)}
		x.Classes[4].Methods[0] = api.Method{Name: "all", Args: 1, Temps: 1, Code: code}
		if got, err := Parse(Bytes(x)); err != api.OK || !same(got, x) {
			t.Errorf("op %d: Parse is %v, %d", op, got, err)
		}
	}
}

// What is written well, but not right, is told as Right tells it.
func TestD2NotRight(t *testing.T) {
	for _, x := range []struct {
		old, now string
		want     api.Errno
	}{
		{"0 4 Object", "-1 4 Object", api.ErrRange},
		{"0 4 Object", strconv.Itoa(math.MinInt) + " 4 Object", api.ErrRange},
		{"0 4 Object", strconv.Itoa(math.MaxInt) + " 4 Object", api.ErrRange},
		{newText, "0 0 0 ", api.ErrMany},
		{newText, "0 1 Object -1 0 0 0 ", api.ErrMany},
		{"Nil", "nil", api.ErrName},
		{"Nil", "\x00\xff\n", api.ErrName},
		{"Nil", strings.Repeat("Nil", 99), api.ErrName},
		{"Nil", "0", api.ErrName},
		{"Nil 0", "Nil 1", api.ErrRange},
		{"Nil 0 0", "Nil 0 7", api.ErrRange},
		{"* 1 0 3 0", "+ 1 0 1 0", api.ErrName},
		{"* 1 0 3 0", "* 1 0 2 0", api.ErrKind},
		{"* 1 0 3 0", "* 9 0 3 0", api.ErrRange},
		{"* 1 0 3 0", "* 1 0 0 0", api.ErrMany},
		{"* 1 0 3 0", "* 1 0 0 1 18 0", api.ErrKind},
		{"* 1 0 3 0", "* 1 0 0 1 5 0", api.ErrEnd},
		{"* 1 0 3 0", "* 1 0 0 3 5 0 14 0 \x01 17 0", api.ErrForm},
		{"5 0 0 ", "5 0 1 1 0 ", api.ErrFit},
		{"5 0 0 ", "5 0 1 0 1 0 0 ", api.ErrFit},
		{"Int 0 0 5", "A 0 0 5", api.ErrName},
	} {
		got, err := Parse([]byte(strings.Replace(newText, x.old, x.now, 1)))
		if err != x.want || !zero(got) {
			t.Errorf("%q instead of %q: Parse is %v, %d, not %d", x.now, x.old, got, err, x.want)
		}
	}
}

func TestD2Form(t *testing.T) {
	for _, s := range []string{
		"", " ", "  ", "0", "0 ", "0 4", "0 4 ", "x ", "0 x ",
		newText[:len(newText)-1], newText + " ", newText + "0 ", newText + "x", " " + newText, newText + newText, newText + "\n",
		newText[:len(newText)-1] + "\n",
		strings.ReplaceAll(newText, " ", "\t"),
		strings.ReplaceAll(newText, " ", "  "),
	} {
		if got, err := Parse([]byte(s)); err != api.ErrForm || !zero(got) {
			t.Errorf("Parse of %q is %v, %d", s, got, err)
		}
	}
	if got, err := Parse(nil); err != api.ErrForm || !zero(got) {
		t.Errorf("Parse of nil is %v, %d", got, err)
	}
	for k := range newText {
		if got, err := Parse([]byte(newText[:k])); err != api.ErrForm || !zero(got) {
			t.Errorf("Parse of %q is %v, %d", newText[:k], got, err)
		}
	}
}

func split(text string) []string {
	return strings.Split(strings.TrimSuffix(text, " "), " ")
}

// checkWord: with s as its word k, boxText is not just so written.
func checkWord(t *testing.T, k int, s string) {
	t.Helper()
	l := split(boxText)
	l[k] = s
	if got, err := Parse([]byte(strings.Join(l, " ") + " ")); err != api.ErrForm || !zero(got) {
		t.Errorf("%q as word %d: Parse is %v, %d", s, k, got, err)
	}
}

// Whatever stands in the place of a number, it is one only if it is written in tens, and as short as may be.
func TestD2Numbers(t *testing.T) {
	for k, old := range split(boxText) {
		if _, err := strconv.Atoi(old); err != nil {
			continue
		}
		for _, s := range []string{"-", "+", "+1", "-0", "00", "01", "-01", "0x1", "1_0", "1.", "1e1", "x", "1x", "1\n", "٣", "9223372036854775808", "-9223372036854775809", strings.Repeat("9", 99)} {
			checkWord(t, k, s)
		}
	}
}

// No name may be left out: two blanks side by side have no word between them.
func TestD2NoWord(t *testing.T) {
	for k := range split(boxText) {
		checkWord(t, k, "")
	}
}

// repeated is s, so many times.
func repeated(n int, s string) string {
	return strconv.Itoa(n) + " " + strings.Repeat(s, n)
}

// More than may be is not written so; fewer things than are told are not either.
func TestD2Counts(t *testing.T) {
	head := strings.TrimSuffix(strings.TrimPrefix(newText, "0 4 "), "0 ")
	classes := func(n int, more string) string { return "0 " + strconv.Itoa(n) + " " + head + more }
	for _, x := range []struct {
		name, text string
		want       api.Errno
	}{
		{"12 classes", classes(12, "A 0 0 0 B 0 0 0 C 0 0 0 D 0 0 0 E 0 0 0 F 0 0 0 G 0 0 0 H 0 0 0 0 "), api.OK},
		{"13 classes", classes(13, "A 0 0 0 B 0 0 0 C 0 0 0 D 0 0 0 E 0 0 0 F 0 0 0 G 0 0 0 H 0 0 0 I 0 0 0 0 "), api.ErrForm},
		{"a class too few", classes(5, "0 "), api.ErrForm},
		{"a class too many", classes(4, "A 0 0 0 0 "), api.ErrForm},
		{"8 methods", classes(5, "A 0 0 "+repeated(8, "a 0 0 0 2 1 0 17 0 ")+"0 "), api.ErrName},
		{"9 methods", classes(5, "A 0 0 "+repeated(9, "a 0 0 0 2 1 0 17 0 ")+"0 "), api.ErrForm},
		{"60 instructions", classes(5, "A 0 0 1 a 0 0 0 "+repeated(60, "15 0 ")+"0 "), api.OK},
		{"61 instructions", classes(5, "A 0 0 1 a 0 0 0 "+repeated(61, "15 0 ")+"0 "), api.ErrForm},
		{"60 objects", classes(4, repeated(60, "0 0 ")), api.OK},
		{"61 objects", classes(4, repeated(61, "0 0 ")), api.ErrForm},
		{"6 slots", classes(5, "A 0 6 0 1 4 "+repeated(6, "3 5 ")), api.OK},
		{"6 slots, and none has them", classes(5, "A 0 5 0 1 4 "+repeated(6, "3 5 ")), api.ErrFit},
		{"7 slots", classes(5, "A 0 6 0 1 4 "+repeated(7, "3 5 ")), api.ErrForm},
		{"a class of 7 slots", classes(5, "A 0 7 0 0 "), api.ErrRange},
		{"fewer than no classes", "0 -1 0 ", api.ErrForm},
		{"fewer than no methods", classes(5, "A 0 0 -1 0 "), api.ErrForm},
		{"fewer than no instructions", classes(5, "A 0 0 1 a 0 0 0 -1 0 "), api.ErrForm},
		{"fewer than no objects", classes(4, "-1 "), api.ErrForm},
		{"fewer than no slots", classes(4, "1 0 -1 "), api.ErrForm},
		{"very many objects", classes(4, strconv.Itoa(math.MaxInt)+" "), api.ErrForm},
		{"a send without its name", classes(5, "A 0 0 1 a 0 0 0 3 1 0 14 0 17 0 0 "), api.ErrForm},
		{"a name that belongs to no send", classes(5, "A 0 0 1 a 0 0 0 2 1 0 x 17 0 0 "), api.ErrForm},
		{"what is not right, and ends too soon", "-5 2 ", api.ErrForm},
	} {
		got, err := Parse([]byte(x.text))
		if err != x.want || err != api.OK && !zero(got) {
			t.Errorf("%s: Parse is %v, %d, not %d", x.name, got, err, x.want)
		}
		if err == api.OK && string(Bytes(got)) != x.text {
			t.Errorf("%s: Bytes is %q, not %q", x.name, Bytes(got), x.text)
		}
	}
}

// checkText: what is taken is right, and written just so; beside an error nothing comes.
func checkText(t *testing.T, b []byte) {
	t.Helper()
	was := bytes.Clone(b)
	x, err := Parse(b)
	if !bytes.Equal(b, was) {
		t.Fatalf("Parse changed %q to %q", was, b)
	}
	if err != api.OK && !zero(x) {
		t.Fatalf("Parse of %q is %v beside error %d", b, x, err)
	}
	if err == api.OK && (Right(x) != api.OK || !bytes.Equal(Bytes(x), b)) {
		t.Fatalf("Parse of %q takes %v, whose text is %q", b, x, Bytes(x))
	}
}

// One byte is taken away, changed, or put in, wherever it may be.
func TestD2OneByte(t *testing.T) {
	b := Bytes(boxes())
	for at := range b {
		checkText(t, slices.Delete(slices.Clone(b), at, at+1))
		for _, c := range []byte{' ', '0', '1', '4', '9', '-', '+', 'x', 0, '\n', 0xff} {
			checkText(t, slices.Insert(slices.Clone(b), at, c))
			changed := slices.Clone(b)
			changed[at] = c
			checkText(t, changed)
		}
	}
}

// Whoever changes what was handed in, or what was answered, changes nothing else.
func TestD2OwnMemory(t *testing.T) {
	b := Bytes(boxes())
	x, _ := Parse(b)
	clear(b[:cap(b)])
	if !same(x, boxes()) {
		t.Errorf("what Parse answered changed with what it was handed: %v", x)
	}
	want := class.Own(x)
	for i := range x.Classes {
		_ = append(x.Classes[i].Methods, api.Method{Name: "spoilt"})
		for k := range x.Classes[i].Methods {
			_ = append(x.Classes[i].Methods[k].Code, in(-9, -9))
		}
	}
	for i := range x.Heap {
		_ = append(x.Heap[i].Slots, num(-9))
	}
	if !same(x, want) {
		t.Errorf("the lists of an answer share room: %v", x)
	}
	one, other := Bytes(class.New()), Bytes(class.New())
	clear(one[:cap(one)])
	if string(other) != newText {
		t.Errorf("two answers share memory: %q", other)
	}
}

// What stands behind a text in its spare room is none of it.
func TestD2SpareRoom(t *testing.T) {
	b := []byte(newText + "0 ")
	if _, err := Parse(b[:len(newText)]); err != api.OK {
		t.Errorf("Parse of a text with spare room: %d", err)
	}
	if _, err := Parse(b[:len(newText)-2]); err != api.ErrForm {
		t.Errorf("Parse of a text that goes on in spare room: %d", err)
	}
}
