package value

import (
	"math"
	"reflect"
	"testing"

	"quickchange/api"
)

func num(n int) api.Value { return api.Value{Kind: api.ValInt, N: n} }

func ref(n int) api.Value { return api.Value{Kind: api.ValRef, N: n} }

var (
	null = api.Value{Kind: api.ValNil}
	no   = api.Value{Kind: api.ValFalse}
	yes  = api.Value{Kind: api.ValTrue}
)

// twoObjects has spare room behind all its lists, with marks in it that no call may change, nor tell.
func twoObjects() []api.Object {
	slots := []api.Value{num(1), yes, num(77)}
	l := []api.Object{
		{Class: 7, Slots: slots[:2]},
		{Class: 4},
		{Class: 99, Slots: []api.Value{num(99)}},
	}
	return l[:2]
}

func sameObjects(a, b []api.Object) bool {
	if len(a) != len(b) {
		return false
	}
	for i := range a {
		if a[i].Class != b[i].Class || len(a[i].Slots) != len(b[i].Slots) {
			return false
		}
		for k := range a[i].Slots {
			if a[i].Slots[k] != b[i].Slots[k] {
				return false
			}
		}
	}
	return true
}

// spoil changes all that l reaches, its spare room too.
func spoil(l []api.Object) {
	l = l[:cap(l)]
	for i := range l {
		s := l[i].Slots[:cap(l[i].Slots)]
		for k := range s {
			s[k] = num(-5)
		}
		l[i].Class = -5
	}
}

func TestA1Bool(t *testing.T) {
	if got := Bool(true); got != yes {
		t.Errorf("Bool(true) is %v", got)
	}
	if got := Bool(false); got != no {
		t.Errorf("Bool(false) is %v", got)
	}
}

func TestA1Wrong(t *testing.T) {
	for _, x := range []struct {
		v    api.Value
		heap int
		want api.Errno
	}{
		{null, 0, api.OK},
		{no, 0, api.OK},
		{yes, 0, api.OK},
		{api.Value{Kind: api.ValNil, N: 1}, 9, api.ErrForm},
		{api.Value{Kind: api.ValFalse, N: -1}, 9, api.ErrForm},
		{api.Value{Kind: api.ValTrue, N: math.MinInt}, 9, api.ErrForm},
		{num(0), 0, api.OK},
		{num(api.MaxNumber), 0, api.OK},
		{num(-api.MaxNumber), 0, api.OK},
		{num(api.MaxNumber + 1), 0, api.ErrRange},
		{num(-api.MaxNumber - 1), 0, api.ErrRange},
		{num(math.MaxInt), 0, api.ErrRange},
		{num(math.MinInt), 0, api.ErrRange},
		{ref(0), 1, api.OK},
		{ref(59), 60, api.OK},
		{ref(0), 0, api.ErrNone},
		{ref(60), 60, api.ErrNone},
		{ref(-1), 60, api.ErrNone},
		{ref(0), -1, api.ErrNone},
		{ref(-2), -1, api.ErrNone},
		{ref(math.MinInt), 60, api.ErrNone},
		{api.Value{Kind: api.ValRef + 1}, 60, api.ErrKind},
		{api.Value{Kind: -1}, 60, api.ErrKind},
		{api.Value{Kind: math.MaxInt, N: math.MaxInt}, 60, api.ErrKind},
	} {
		if got := Wrong(x.v, x.heap); got != x.want {
			t.Errorf("Wrong(%v, %d) is %d, not %d", x.v, x.heap, got, x.want)
		}
	}
}

func TestA1Class(t *testing.T) {
	for _, x := range []struct {
		v    api.Value
		want int
	}{
		{null, api.ClassNil},
		{no, api.ClassBool},
		{yes, api.ClassBool},
		{num(5), api.ClassInt},
		{num(math.MaxInt), api.ClassInt},
		{api.Value{Kind: api.ValNil, N: 1}, api.ClassNil},
		{api.Value{Kind: api.ValTrue, N: 1}, api.ClassBool},
		{ref(0), 7},
		{ref(1), 4},
		{ref(2), api.ClassObject},
		{ref(-1), api.ClassObject},
		{ref(math.MaxInt), api.ClassObject},
		{api.Value{Kind: 5}, api.ClassObject},
		{api.Value{Kind: -1}, api.ClassObject},
	} {
		if got := Class(twoObjects(), x.v); got != x.want {
			t.Errorf("Class of %v is %d, not %d", x.v, got, x.want)
		}
	}
	if got := Class(nil, ref(0)); got != api.ClassObject {
		t.Errorf("Class of an object that is in no list is %d", got)
	}
}

func TestA1Own(t *testing.T) {
	h := twoObjects()
	got := Own(h)
	if !sameObjects(got, twoObjects()) {
		t.Fatalf("Own is %v", got)
	}
	spoil(h)
	if !sameObjects(got, twoObjects()) {
		t.Errorf("what Own answered changed with what it was handed: %v", got)
	}
	for _, empty := range [][]api.Object{nil, {}} {
		if got := Own(empty); len(got) != 0 {
			t.Errorf("Own of nothing is %v", got)
		}
	}
}

func TestA1New(t *testing.T) {
	for _, x := range []struct{ slots, want int }{{0, 0}, {1, 1}, {6, 6}, {7, 7}, {-1, 0}, {math.MinInt, 0}} {
		got, v, err := New(twoObjects(), 5, x.slots)
		want := append(twoObjects(), api.Object{Class: 5, Slots: make([]api.Value, x.want)})
		if err != api.OK || v != ref(2) || !sameObjects(got, want) {
			t.Errorf("New of %d slots is %v, %v, %d", x.slots, got, v, err)
		}
	}
	for _, empty := range [][]api.Object{nil, {}} {
		got, v, err := New(empty, -3, 1)
		if err != api.OK || v != ref(0) || !sameObjects(got, []api.Object{{Class: -3, Slots: []api.Value{null}}}) {
			t.Errorf("New without objects is %v, %v, %d", got, v, err)
		}
	}
}

func TestA1NewFull(t *testing.T) {
	for _, x := range []struct {
		have int
		want api.Errno
	}{
		{api.MaxHeap - 1, api.OK},
		{api.MaxHeap, api.ErrFull},
		{api.MaxHeap + 1, api.ErrFull},
	} {
		got, v, err := New(make([]api.Object, x.have), 4, 1)
		if err != x.want {
			t.Errorf("New beside %d objects tells %d, not %d", x.have, err, x.want)
		}
		if err == api.OK && (len(got) != x.have+1 || v != ref(x.have)) {
			t.Errorf("New beside %d objects has %d, and %v", x.have, len(got), v)
		}
		if err != api.OK && (len(got) != 0 || v != api.Value{}) {
			t.Errorf("New beside %d objects tells more than its error: %v, %v", x.have, got, v)
		}
	}
}

// TestA1NewTooLarge: no bound is promised here, but that nothing panics.
func TestA1NewTooLarge(t *testing.T) {
	got, v, err := New(nil, 4, math.MaxInt)
	if err == api.OK || len(got) != 0 || v != (api.Value{}) {
		t.Errorf("New of more slots than there can be is %d objects, %v, %d", len(got), v, err)
	}
}

func TestA1NewOnlyReads(t *testing.T) {
	h := twoObjects()
	got, _, _ := New(h, 5, 2)
	if !reflect.DeepEqual(h[:cap(h)], twoObjects()[:cap(h)]) || h[0].Slots[:3][2] != num(77) {
		t.Errorf("New changed what it was handed: %v", h[:cap(h)])
	}
	want := append(twoObjects(), api.Object{Class: 5, Slots: make([]api.Value, 2)})
	spoil(h)
	if !sameObjects(got, want) {
		t.Errorf("what New answered changed with what it was handed: %v", got)
	}
}

// TestA1AnswersAreTheCallers: whoever changes what was answered, or its spare room, changes nothing that was handed in, and no other list of the answer.
func TestA1AnswersAreTheCallers(t *testing.T) {
	h := twoObjects()
	spoil(Own(h))
	made, _, _ := New(h, 5, 2)
	spoil(made)
	if !sameObjects(h, twoObjects()) {
		t.Errorf("what was handed in changed with an answer: %v", h)
	}
	made, _, _ = New(h, 5, 2)
	want := Own(made)
	for i := range made {
		_ = append(made[i].Slots, num(-5), num(-5))
	}
	if !sameObjects(made, want) {
		t.Errorf("the lists of an answer share room: %v", made)
	}
}

func TestA1Slot(t *testing.T) {
	for _, x := range []struct {
		v    api.Value
		n    int
		want api.Value
	}{
		{ref(0), 0, num(1)},
		{ref(0), 1, yes},
		{ref(0), 2, null},
		{ref(0), -1, null},
		{ref(0), math.MaxInt, null},
		{ref(1), 0, null},
		{ref(2), 0, null},
		{ref(-1), 0, null},
		{ref(math.MinInt), 0, null},
		{null, 0, null},
		{yes, 0, null},
		{num(0), 0, null},
		{api.Value{Kind: 5}, 0, null},
		{api.Value{Kind: -1}, 0, null},
	} {
		if got := Slot(twoObjects(), x.v, x.n); got != x.want {
			t.Errorf("Slot %d of %v is %v, not %v", x.n, x.v, got, x.want)
		}
	}
	if got := Slot(nil, ref(0), 0); got != null {
		t.Errorf("Slot of an object that is in no list is %v", got)
	}
}

func TestA2Numbers(t *testing.T) {
	const most = api.MaxNumber
	for _, x := range []struct{ prim, a, b, want int }{
		{api.PrimAdd, 2, 3, 5},
		{api.PrimAdd, -7, 3, -4},
		{api.PrimAdd, most, 0, most},
		{api.PrimAdd, most, 1, 0},
		{api.PrimAdd, most, 2, 1},
		{api.PrimAdd, -most, -1, 0},
		{api.PrimAdd, -most, -2, -1},
		{api.PrimAdd, most, most, most - 1},
		{api.PrimAdd, -most, -most, 1 - most},
		{api.PrimAdd, most, -most, 0},
		{api.PrimSub, 2, 3, -1},
		{api.PrimSub, 0, most, -most},
		{api.PrimSub, most, -1, 0},
		{api.PrimSub, -most, 1, 0},
		{api.PrimSub, -most, most, 1 - most},
		{api.PrimSub, most, -most, most - 1},
		{api.PrimMul, 7, 3, 21},
		{api.PrimMul, -7, 3, -21},
		{api.PrimMul, -7, -3, 21},
		{api.PrimMul, most, 0, 0},
		{api.PrimMul, most, 2, most - 1},
		{api.PrimMul, most, -2, 1 - most},
		{api.PrimMul, most, most, 1},
		{api.PrimMul, -most, most, -1},
		{api.PrimMul, -most, -most, 1},
	} {
		got, err := Prim(x.prim, num(x.a), num(x.b))
		if err != api.OK || got != num(x.want) {
			t.Errorf("Prim(%d) of %d and %d is %v, %d, not %d", x.prim, x.a, x.b, got, err, x.want)
		}
	}
}

// TestA2StaysRight: whatever right numbers are taken, a right number comes of them.
func TestA2StaysRight(t *testing.T) {
	edges := []int{0, 1, 2, 3, 1 << 15, 1<<15 + 1, 1 << 29, api.MaxNumber - 1, api.MaxNumber}
	for _, n := range edges {
		edges = append(edges, -n)
	}
	for _, a := range edges {
		for _, b := range edges {
			for _, prim := range []int{api.PrimAdd, api.PrimSub, api.PrimMul} {
				got, err := Prim(prim, num(a), num(b))
				if err != api.OK || got.Kind != api.ValInt || Wrong(got, 0) != api.OK {
					t.Errorf("Prim(%d) of %d and %d is %v, %d", prim, a, b, got, err)
				}
			}
		}
	}
}

func TestA2Whether(t *testing.T) {
	for _, x := range []struct {
		a, b       int
		less, same bool
	}{
		{2, 3, true, false},
		{3, 2, false, false},
		{5, 5, false, true},
		{-1, 0, true, false},
		{0, -1, false, false},
		{-api.MaxNumber, api.MaxNumber, true, false},
		{api.MaxNumber, -api.MaxNumber, false, false},
		{-api.MaxNumber, -api.MaxNumber, false, true},
	} {
		if got, err := Prim(api.PrimLess, num(x.a), num(x.b)); err != api.OK || got != Bool(x.less) {
			t.Errorf("whether %d is less than %d is %v, %d", x.a, x.b, got, err)
		}
		if got, err := Prim(api.PrimSame, num(x.a), num(x.b)); err != api.OK || got != Bool(x.same) {
			t.Errorf("whether %d is the same as %d is %v, %d", x.a, x.b, got, err)
		}
	}
}

func TestA2Wrong(t *testing.T) {
	for _, x := range []struct {
		prim int
		a, b api.Value
		want api.Errno
	}{
		{api.PrimNone, num(2), num(3), api.ErrKind},
		{api.PrimSame + 1, num(2), num(3), api.ErrKind},
		{-1, num(2), num(3), api.ErrKind},
		{math.MaxInt, num(2), num(3), api.ErrKind},
		{api.PrimAdd, null, num(3), api.ErrInt},
		{api.PrimSub, num(3), no, api.ErrInt},
		{api.PrimMul, yes, yes, api.ErrInt},
		{api.PrimLess, num(3), ref(0), api.ErrInt},
		{api.PrimSame, ref(0), ref(0), api.ErrInt},
		{api.PrimSame, null, null, api.ErrInt},
		{api.PrimAdd, api.Value{Kind: 5}, num(3), api.ErrInt},
		{api.PrimAdd, num(3), api.Value{Kind: -1}, api.ErrInt},
		{api.PrimNone, null, num(3), api.ErrInt},
		{9, num(3), null, api.ErrInt},
	} {
		got, err := Prim(x.prim, x.a, x.b)
		if err != x.want || got != (api.Value{}) {
			t.Errorf("Prim(%d, %v, %v) is %v, %d, not %d", x.prim, x.a, x.b, got, err, x.want)
		}
	}
}

// TestA2NoPanic: of numbers that are not right nothing is promised, but that nothing panics.
func TestA2NoPanic(t *testing.T) {
	for prim := -1; prim <= api.PrimSame+1; prim++ {
		for _, a := range []int{math.MinInt, -1, 0, math.MaxInt} {
			for _, b := range []int{math.MinInt, -1, 0, math.MaxInt} {
				Prim(prim, num(a), num(b))
			}
		}
	}
}
