package class

import (
	"math"
	"reflect"
	"strings"
	"testing"

	"quickchange/api"
)

// full is a list of the same entries without spare room, nil if there are none, so that DeepEqual tells of entries alone.
func full[T any](l []T) []T {
	if len(l) == 0 {
		return nil
	}
	return append(make([]T, 0, len(l)), l...)
}

func plainMethod(m api.Method) api.Method {
	m.Code = full(m.Code)
	return m
}

func plainWorld(w api.World) api.World {
	w.Classes, w.Heap = full(w.Classes), full(w.Heap)
	for i := range w.Classes {
		w.Classes[i].Methods = full(w.Classes[i].Methods)
		for k, m := range w.Classes[i].Methods {
			w.Classes[i].Methods[k] = plainMethod(m)
		}
	}
	for i := range w.Heap {
		w.Heap[i].Slots = full(w.Heap[i].Slots)
	}
	return w
}

func sameWorld(a, b api.World) bool {
	return reflect.DeepEqual(plainWorld(a), plainWorld(b))
}

// openWorld is w with its lists' spare room told as entries, so that changes there are seen.
func openWorld(w api.World) api.World {
	w.Classes, w.Heap = full(w.Classes[:cap(w.Classes)]), full(w.Heap[:cap(w.Heap)])
	for i, c := range w.Classes {
		w.Classes[i].Methods = full(c.Methods[:cap(c.Methods)])
		for k, m := range w.Classes[i].Methods {
			w.Classes[i].Methods[k].Code = full(m.Code[:cap(m.Code)])
		}
	}
	for i, o := range w.Heap {
		w.Heap[i].Slots = full(o.Slots[:cap(o.Slots)])
	}
	return w
}

// spoil changes all that w reaches, spare room too.
func spoil(w api.World) {
	classes, heap := w.Classes[:cap(w.Classes)], w.Heap[:cap(w.Heap)]
	for i := range classes {
		methods := classes[i].Methods[:cap(classes[i].Methods)]
		for k := range methods {
			spoilCode(methods[k])
			methods[k] = api.Method{Name: "spoilt", Args: -9}
		}
		classes[i] = api.Class{Name: "spoilt", Super: -9, Slots: -9}
	}
	for i := range heap {
		slots := heap[i].Slots[:cap(heap[i].Slots)]
		for k := range slots {
			slots[k] = api.Value{Kind: -9, N: -9}
		}
		heap[i] = api.Object{Class: -9}
	}
}

func spoilCode(m api.Method) {
	code := m.Code[:cap(m.Code)]
	for i := range code {
		code[i] = api.Instr{Op: -9, Name: "spoilt"}
	}
}

// roomyMethod has spare room behind its code, with a mark in it.
func roomyMethod(name string) api.Method {
	code := []api.Instr{{Op: api.OpSelf}, {Op: api.OpSend, A: 1, B: 2, C: 3, Name: "x"}, {Op: 77}}
	return api.Method{Name: name, Args: 1, Temps: 2, Code: code[:2]}
}

// roomy has spare room behind all its lists, with marks in it that no call may change, nor tell.
func roomy() api.World {
	methods := []api.Method{roomyMethod("b"), roomyMethod("d"), roomyMethod("mark")}
	slots := []api.Value{{Kind: api.ValInt, N: 5}, {Kind: api.ValTrue}, {Kind: 77}}
	classes := append(New().Classes,
		api.Class{Name: "A", Slots: 2, Methods: methods[:2]},
		api.Class{Name: "B", Super: 4, Slots: 1},
		api.Class{Name: "mark", Slots: 1, Methods: []api.Method{roomyMethod("a")}})
	heap := []api.Object{{Class: 4, Slots: slots[:2]}, {Class: 0}, {Class: 77}}
	return api.World{Classes: classes[:6], Heap: heap[:2], Epoch: 8}
}

// plainClasses is a world of so many classes, each below the one ahead, of no slots and methods.
func plainClasses(n int) api.World {
	var w api.World
	for i := range n {
		w.Classes = append(w.Classes, api.Class{Name: string(rune('a' + i)), Super: i - 1})
	}
	return w
}

func names(l []api.Method) string {
	var out []string
	for _, m := range l {
		out = append(out, m.Name)
	}
	return strings.Join(out, " ")
}

func mustMake(t *testing.T, w api.World, name string, super, slots int) api.World {
	t.Helper()
	made, n, err := Make(w, name, super, slots)
	if err != api.OK || n != len(w.Classes) {
		t.Fatalf("Make %q: number %d, error %d", name, n, err)
	}
	return made
}

func mustInstall(t *testing.T, w api.World, c int, m api.Method) api.World {
	t.Helper()
	made, err := Install(w, c, m)
	if err != api.OK {
		t.Fatalf("Install %q: error %d", m.Name, err)
	}
	return made
}

func TestB1New(t *testing.T) {
	prim := func(name string, prim int) api.Method { return api.Method{Name: name, Args: 1, Prim: prim} }
	want := api.World{Classes: []api.Class{
		{Name: "Object", Super: -1},
		{Name: "Nil"},
		{Name: "Bool"},
		{Name: "Int", Methods: []api.Method{
			prim("*", api.PrimMul), prim("+", api.PrimAdd), prim("-", api.PrimSub), prim("<", api.PrimLess), prim("=", api.PrimSame),
		}},
	}}
	first := New()
	if !sameWorld(first, want) {
		t.Errorf("New is %v", first)
	}
	spoil(first)
	if got := New(); !sameWorld(got, want) {
		t.Errorf("New hangs on what became of an earlier one: %v", got)
	}
}

func TestB1Method(t *testing.T) {
	want := api.Method{Name: "m", Args: 3, Temps: 2, Prim: 4, Code: []api.Instr{{Op: 1, A: 2, B: 3, C: 4, Name: "n"}, {Op: 17}}}
	m := want
	m.Code = append(full(want.Code), api.Instr{Op: 77})[:2]
	got := Method(m)
	if !reflect.DeepEqual(plainMethod(got), want) {
		t.Errorf("Method is %v", got)
	}
	if m.Code[:3][2].Op != 77 {
		t.Error("Method changed the spare room of what it was handed")
	}
	spoilCode(m)
	if !reflect.DeepEqual(plainMethod(got), want) {
		t.Error("Method kept the code that it was handed")
	}
	other := Method(want)
	spoilCode(other)
	if want.Code[0].Op != 1 {
		t.Error("Method handed back the code that it was handed")
	}
	if got := Method(api.Method{}); !reflect.DeepEqual(plainMethod(got), api.Method{}) {
		t.Errorf("Method of none is %v", got)
	}
}

func TestB1Own(t *testing.T) {
	w, open := roomy(), openWorld(roomy())
	got := Own(w)
	if !sameWorld(got, roomy()) {
		t.Errorf("Own is %v", got)
	}
	if !reflect.DeepEqual(openWorld(w), open) {
		t.Error("Own changed what it was handed")
	}
	spoil(w)
	if !sameWorld(got, roomy()) {
		t.Error("Own kept something of what it was handed")
	}
	for _, x := range []api.World{{}, {Classes: []api.Class{}, Heap: []api.Object{}}} {
		if got := Own(x); len(got.Classes) != 0 || len(got.Heap) != 0 || got.Epoch != 0 {
			t.Errorf("Own of none is %v", got)
		}
	}
	if got := Own(api.World{Epoch: -3}); got.Epoch != -3 {
		t.Errorf("Own has epoch %d", got.Epoch)
	}
}

func TestB1OwnListsAreApart(t *testing.T) {
	code := []api.Instr{{Op: api.OpSelf}, {Op: api.OpBack}}
	methods := []api.Method{{Name: "a", Code: code}, {Name: "b", Code: code}}
	slots := []api.Value{{}}
	w := api.World{
		Classes: []api.Class{{Name: "A", Super: -1, Methods: methods}, {Name: "B", Methods: methods}},
		Heap:    []api.Object{{Slots: slots}, {Slots: slots}},
	}
	got := Own(w)
	spoilCode(got.Classes[0].Methods[0])
	got.Classes[0].Methods[1].Name = "z"
	got.Heap[0].Slots[0].Kind = 9
	if got.Classes[0].Methods[1].Code[0].Op != api.OpSelf || got.Classes[1].Methods[0].Code[0].Op != api.OpSelf {
		t.Error("two methods share their code")
	}
	if got.Classes[1].Methods[1].Name != "b" || got.Heap[1].Slots[0].Kind != 0 {
		t.Error("two classes share their methods, or two objects their slots")
	}
}

func TestB1Name(t *testing.T) {
	for _, s := range []string{"a", "+", "!", "~", "!~", "abcdefghijkl", "0", "-1", "A:b"} {
		if !Name(s) {
			t.Errorf("%q is no name", s)
		}
	}
	for _, s := range []string{"", " ", "a b", " a", "a ", "\x7f", "a\x7f", "\x1f", "\n", "\x00", "\x80", "\xff", "é", "abcdefghijklm", strings.Repeat("a", 500)} {
		if Name(s) {
			t.Errorf("%q is a name", s)
		}
	}
	for b := range 256 {
		if got := Name(string([]byte{'a', byte(b)})); got != (b >= '!' && b <= '~') {
			t.Errorf("byte %d in a name: %v", b, got)
		}
	}
}

func TestB1Slots(t *testing.T) {
	w := New()
	for _, x := range []struct {
		name         string
		super, slots int
	}{{"A", 0, 2}, {"B", 4, 1}, {"C", 5, 3}, {"D", 4, 0}} {
		w = mustMake(t, w, x.name, x.super, x.slots)
	}
	for c, want := range []int{0, 0, 0, 0, 2, 3, 6, 2} {
		if got := Slots(w, c); got != want {
			t.Errorf("Slots of class %d: %d, not %d", c, got, want)
		}
	}
	for _, c := range []int{-1, 8, 9, math.MinInt, math.MaxInt} {
		if got := Slots(w, c); got != 0 {
			t.Errorf("Slots of class %d, that is none: %d", c, got)
		}
	}
	if got := Slots(api.World{}, 0); got != 0 {
		t.Errorf("Slots without classes: %d", got)
	}
}

func TestB1SlotsAbove(t *testing.T) {
	w := plainClasses(3)
	for i := range w.Classes {
		w.Classes[i].Slots = i + 1
	}
	for _, x := range []struct {
		what   string
		supers [3]int
		want   [3]int
	}{
		{"a line", [3]int{-1, 0, 1}, [3]int{1, 3, 6}},
		{"from below", [3]int{2, -1, 1}, [3]int{6, 2, 5}},
		{"above there is none", [3]int{3, 9, math.MaxInt}, [3]int{1, 2, 3}},
		{"below there is none", [3]int{-1, -2, math.MinInt}, [3]int{1, 2, 3}},
		{"each above itself", [3]int{0, 1, 2}, [3]int{4, 8, 12}},
		{"a ring of three", [3]int{1, 2, 0}, [3]int{7, 8, 9}},
		{"a ring of two", [3]int{-1, 2, 1}, [3]int{1, 10, 10}},
	} {
		for i, s := range x.supers {
			w.Classes[i].Super = s
		}
		for c, want := range x.want {
			if got := Slots(w, c); got != want {
				t.Errorf("%s: Slots of class %d: %d, not %d", x.what, c, got, want)
			}
		}
	}
}

func TestB1Find(t *testing.T) {
	w := New()
	w = mustMake(t, w, "A", 0, 0)
	w = mustMake(t, w, "B", 4, 0)
	w = mustMake(t, w, "C", 5, 0)
	for c, l := range map[int][]string{0: {"o", "both"}, 4: {"a", "both", "+"}, 5: {"b", "a"}} {
		for _, s := range l {
			w = mustInstall(t, w, c, api.Method{Name: s})
		}
	}
	for _, x := range []struct {
		c           int
		name        string
		class, find int
	}{
		{0, "o", 0, 1}, {0, "both", 0, 0}, {0, "a", -1, -1},
		{1, "o", 0, 1}, {1, "+", -1, -1}, {3, "+", 3, 1}, {3, "=", 3, 4}, {3, "*", 3, 0}, {3, "both", 0, 0},
		{4, "a", 4, 1}, {4, "both", 4, 2}, {4, "+", 4, 0}, {4, "o", 0, 1}, {4, "b", -1, -1},
		{5, "a", 5, 0}, {5, "b", 5, 1}, {5, "both", 4, 2}, {5, "o", 0, 1},
		{6, "a", 5, 0}, {6, "b", 5, 1}, {6, "+", 4, 0}, {6, "O", -1, -1}, {6, "", -1, -1}, {6, "aa", -1, -1}, {6, "bot", -1, -1},
		{-1, "o", -1, -1}, {7, "o", -1, -1}, {math.MinInt, "o", -1, -1}, {math.MaxInt, "o", -1, -1},
	} {
		if c, i := Find(w, x.c, x.name); c != x.class || i != x.find {
			t.Errorf("Find %q from %d: %d %d, not %d %d", x.name, x.c, c, i, x.class, x.find)
		}
	}
	if c, i := Find(api.World{}, 0, "o"); c != -1 || i != -1 {
		t.Errorf("Find without classes: %d %d", c, i)
	}
}

func TestB1FindInRings(t *testing.T) {
	w := plainClasses(4)
	for i, s := range []int{1, 2, 0, 3} {
		w.Classes[i].Super = s
	}
	w.Classes[2].Methods = []api.Method{{Name: ""}, {Name: "m"}}
	for c := range 3 {
		if k, i := Find(w, c, "m"); k != 2 || i != 1 {
			t.Errorf("Find from %d: %d %d", c, k, i)
		}
		if k, i := Find(w, c, "n"); k != -1 || i != -1 {
			t.Errorf("Find of none from %d: %d %d", c, k, i)
		}
	}
	if k, i := Find(w, 1, ""); k != 2 || i != 0 {
		t.Errorf("Find of the empty name: %d %d", k, i)
	}
	if k, i := Find(w, 3, "m"); k != -1 || i != -1 {
		t.Errorf("Find from beside the ring: %d %d", k, i)
	}
}

// The last one up a line of classes is reached, however long the line is.
func TestB1FindTheLast(t *testing.T) {
	for n := 1; n < 30; n++ {
		w := plainClasses(n)
		w.Classes[0].Methods = []api.Method{{Name: "m"}}
		w.Classes[0].Slots = 1
		if k, i := Find(w, n-1, "m"); k != 0 || i != 0 {
			t.Errorf("%d classes: %d %d", n, k, i)
		}
		if got := Slots(w, n-1); got != 1 {
			t.Errorf("%d classes: %d slots", n, got)
		}
	}
}

func TestB2Make(t *testing.T) {
	w, open := roomy(), openWorld(roomy())
	got, n, err := Make(w, "C", 5, 3)
	want := roomy()
	want.Classes = append(full(want.Classes), api.Class{Name: "C", Super: 5, Slots: 3})
	if err != api.OK || n != 6 || !sameWorld(got, want) {
		t.Errorf("Make: %v, number %d, error %d", got, n, err)
	}
	if !reflect.DeepEqual(openWorld(w), open) {
		t.Error("Make changed what it was handed")
	}
	spoil(w)
	if !sameWorld(got, want) {
		t.Error("Make kept something of what it was handed")
	}
}

func TestB2MakeWrong(t *testing.T) {
	w := New()
	w = mustMake(t, w, "A", 0, 2)
	w = mustMake(t, w, "B", 4, 4)
	for _, x := range []struct {
		name         string
		super, slots int
		want         api.Errno
	}{
		{"C", 0, 0, api.OK}, {"C", 0, 6, api.OK}, {"C", 4, 4, api.OK}, {"C", 5, 0, api.OK}, {"a", 0, 0, api.OK}, {"abcdefghijkl", 0, 0, api.OK},
		{"", 0, 0, api.ErrName}, {"a b", 0, 0, api.ErrName}, {"abcdefghijklm", 0, 0, api.ErrName}, {"\x80", 0, 0, api.ErrName},
		{"Object", 0, 0, api.ErrName}, {"Int", 0, 0, api.ErrName}, {"A", 0, 0, api.ErrName}, {"B", 4, 0, api.ErrName},
		{"C", -1, 0, api.ErrNone}, {"C", 6, 0, api.ErrNone}, {"C", math.MaxInt, 0, api.ErrNone}, {"C", math.MinInt, 0, api.ErrNone},
		{"C", 0, -1, api.ErrRange}, {"C", 0, 7, api.ErrRange}, {"C", 4, 5, api.ErrRange}, {"C", 5, 1, api.ErrRange},
		{"C", 0, math.MinInt, api.ErrRange}, {"C", 0, math.MaxInt, api.ErrRange}, {"C", 4, math.MaxInt, api.ErrRange}, {"C", 5, math.MaxInt - 1, api.ErrRange},
		{"C", 1, 0, api.ErrRange}, {"C", 2, 0, api.ErrRange}, {"C", 3, 0, api.ErrRange},
		{"", 6, 7, api.ErrName}, {"A", -1, -1, api.ErrName}, {"C", 6, 7, api.ErrNone}, {"C", -1, -1, api.ErrNone},
	} {
		got, n, err := Make(w, x.name, x.super, x.slots)
		if err != x.want {
			t.Errorf("Make %q %d %d: error %d, not %d", x.name, x.super, x.slots, err, x.want)
		}
		if err != api.OK && (n != 0 || !reflect.DeepEqual(got, api.World{})) {
			t.Errorf("Make %q %d %d: beside an error come %v and %d", x.name, x.super, x.slots, got, n)
		}
	}
	if _, _, err := Make(api.World{}, "C", 0, 0); err != api.ErrNone {
		t.Errorf("Make without classes: error %d", err)
	}
}

func TestB2MakeMany(t *testing.T) {
	w := New()
	for i := len(w.Classes); i < api.MaxClasses; i++ {
		w = mustMake(t, w, string(rune('a'+i)), 0, 0)
	}
	for _, x := range []struct {
		w            api.World
		name         string
		super, slots int
		want         api.Errno
	}{
		{w, "Z", 0, 0, api.ErrMany},
		{w, "Z", 11, 6, api.ErrMany},
		{plainClasses(13), "Z", 12, 0, api.ErrMany},
		{plainClasses(11), "Z", 10, 0, api.OK},
		{w, "Int", 0, 0, api.ErrName},
		{w, "", 0, 0, api.ErrName},
		{w, "Z", 12, 0, api.ErrNone},
		{w, "Z", 0, 7, api.ErrRange},
		{w, "Z", 1, 0, api.ErrRange},
	} {
		got, n, err := Make(x.w, x.name, x.super, x.slots)
		if err != x.want || err != api.OK && (n != 0 || !reflect.DeepEqual(got, api.World{})) {
			t.Errorf("Make %q %d %d of %d classes: %d, error %d, not %d", x.name, x.super, x.slots, len(x.w.Classes), n, err, x.want)
		}
	}
}

// A class above itself counts as often as UP meets it.
func TestB2MakeInRings(t *testing.T) {
	w := api.World{Classes: []api.Class{{Name: "A", Slots: 3}}}
	if _, _, err := Make(w, "B", 0, 0); err != api.OK {
		t.Errorf("six slots above: error %d", err)
	}
	if _, _, err := Make(w, "B", 0, 1); err != api.ErrRange {
		t.Errorf("six slots above, and one: error %d", err)
	}
	w.Classes[0].Slots = 4
	if _, _, err := Make(w, "B", 0, 0); err != api.ErrRange {
		t.Errorf("eight slots above: error %d", err)
	}
}

func TestB2Install(t *testing.T) {
	w, m := roomy(), roomyMethod("c")
	open := openWorld(roomy())
	got, err := Install(w, 4, m)
	want := roomy()
	want.Classes[4].Methods = []api.Method{roomyMethod("b"), roomyMethod("c"), roomyMethod("d")}
	want.Epoch = 9
	if err != api.OK || !sameWorld(got, want) {
		t.Errorf("Install: %v, error %d", got, err)
	}
	if !reflect.DeepEqual(openWorld(w), open) || m.Code[:3][2].Op != 77 {
		t.Error("Install changed what it was handed")
	}
	spoil(w)
	spoilCode(m)
	if !sameWorld(got, want) {
		t.Error("Install kept something of what it was handed")
	}
}

func TestB2InstallInPlace(t *testing.T) {
	for _, name := range []string{"b", "d"} {
		w, open := roomy(), openWorld(roomy())
		m := api.Method{Name: name, Args: 4, Temps: 1, Prim: 2, Code: []api.Instr{{Op: api.OpNil}, {Op: api.OpBack}}}
		got, err := Install(w, 4, m)
		want := roomy()
		want.Classes[4].Methods = []api.Method{roomyMethod("b"), roomyMethod("d")}
		at := map[string]int{"b": 0, "d": 1}[name]
		want.Classes[4].Methods[at] = m
		want.Epoch = 9
		if err != api.OK || !sameWorld(got, want) {
			t.Errorf("Install of %q: %v, error %d", name, got, err)
		}
		if !reflect.DeepEqual(openWorld(w), open) {
			t.Errorf("Install of %q changed what it was handed", name)
		}
		want.Classes[4].Methods[at] = Method(m)
		spoil(w)
		spoilCode(m)
		if !sameWorld(got, want) {
			t.Errorf("Install of %q kept something of what it was handed", name)
		}
	}
}

// Names rise byte by byte, in whatever order the methods came.
func TestB2InstallRises(t *testing.T) {
	for _, x := range []struct{ in, want string }{
		{"a b c", "a b c"},
		{"c b a", "a b c"},
		{"b c a", "a b c"},
		{"b a b c b", "a b c"},
		{"ab a b aa", "a aa ab b"},
		{"a Z ~ !", "! Z a ~"},
		{"z \xff é", "z é \xff"},
		{"10 9 1", "1 10 9"},
	} {
		w, n := New(), 0
		for _, s := range strings.Split(x.in, " ") {
			n++
			w = mustInstall(t, w, 1, api.Method{Name: s, Args: n})
		}
		if got := names(w.Classes[1].Methods); got != x.want || w.Epoch != n {
			t.Errorf("%q: names %q, not %q; epoch %d, not %d", x.in, got, x.want, w.Epoch, n)
		}
		if k, i := Find(w, 1, x.in[strings.LastIndex(x.in, " ")+1:]); k != 1 || w.Classes[1].Methods[i].Args != n {
			t.Errorf("%q: the last one is not there", x.in)
		}
	}
}

func TestB2InstallMany(t *testing.T) {
	w := New()
	for i := range api.MaxMethods {
		w = mustInstall(t, w, 0, api.Method{Name: string(rune('b' + i))})
	}
	for _, s := range []string{"a", "z", "bb", ""} {
		if got, err := Install(w, 0, api.Method{Name: s}); err != api.ErrMany || !reflect.DeepEqual(got, api.World{}) {
			t.Errorf("%q comes to as many as may be: %v, error %d", s, got, err)
		}
	}
	for i := range api.MaxMethods {
		got := mustInstall(t, w, 0, api.Method{Name: string(rune('b' + i)), Temps: 3})
		if len(got.Classes[0].Methods) != api.MaxMethods || got.Classes[0].Methods[i].Temps != 3 || got.Epoch != w.Epoch+1 {
			t.Errorf("method %d in its own place: %v", i, got.Classes[0])
		}
	}
	if got := mustInstall(t, w, 1, api.Method{Name: "a"}); names(got.Classes[1].Methods) != "a" {
		t.Error("another class has no room")
	}
	w.Classes[0].Methods = append(w.Classes[0].Methods, api.Method{Name: "x"}, api.Method{Name: "y"})
	if _, err := Install(w, 0, api.Method{Name: "z"}); err != api.ErrMany {
		t.Errorf("more than may be, and one: error %d", err)
	}
	if got := mustInstall(t, w, 0, api.Method{Name: "y", Args: 2}); got.Classes[0].Methods[9].Args != 2 || len(got.Classes[0].Methods) != 10 {
		t.Errorf("more than may be, one in its own place: %v", got.Classes[0])
	}
}

func TestB2InstallWrong(t *testing.T) {
	for _, c := range []int{-1, 4, 5, math.MinInt, math.MaxInt} {
		if got, err := Install(New(), c, api.Method{Name: "a"}); err != api.ErrNone || !reflect.DeepEqual(got, api.World{}) {
			t.Errorf("class %d, that is none: %v, error %d", c, got, err)
		}
	}
	if _, err := Install(api.World{}, 0, api.Method{Name: "a"}); err != api.ErrNone {
		t.Errorf("no classes: error %d", err)
	}
}

// Whether a method is right is not asked here: all that it has is there.
func TestB2InstallWhatever(t *testing.T) {
	m := api.Method{Name: " not a name ", Args: -5, Temps: 99, Prim: 42, Code: []api.Instr{{Op: -1, A: 3, B: 4, C: 5, Name: "\x00"}}}
	w := mustInstall(t, New(), api.ClassInt, m)
	if got := w.Classes[api.ClassInt].Methods; len(got) != 6 || !reflect.DeepEqual(plainMethod(got[0]), m) {
		t.Errorf("methods are %v", got)
	}
}

// The document's example 2: class 4, of two slots, and class 5 in it, of one more.
func TestB2Example(t *testing.T) {
	w := mustMake(t, New(), "Two", 0, 2)
	w = mustMake(t, w, "Three", 4, 1)
	if got := Slots(w, 5); got != 3 {
		t.Errorf("objects of 5 have %d", got)
	}
	if w.Epoch != 0 {
		t.Errorf("Make makes the epoch %d", w.Epoch)
	}
}
