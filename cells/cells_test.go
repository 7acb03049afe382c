package cells

import (
	"math"
	"reflect"
	"testing"

	"quickchange/api"
	"quickchange/class"
)

var (
	here  = api.Site{Class: 4, Name: "sum", At: 1}
	there = api.Site{Class: 4, Name: "sum", At: 3}
)

// full is a list of the same entries without spare room, nil if there are none, so that DeepEqual tells of entries alone.
func full[T any](l []T) []T {
	if len(l) == 0 {
		return nil
	}
	return append(make([]T, 0, len(l)), l...)
}

func plain(l []api.Cell) []api.Cell {
	l = full(l)
	for i := range l {
		l[i].Lines = full(l[i].Lines)
	}
	return l
}

func same(a, b []api.Cell) bool {
	return reflect.DeepEqual(plain(a), plain(b))
}

// open is l with its lists' spare room told as entries, so that changes there are seen.
func open(l []api.Cell) []api.Cell {
	l = full(l[:cap(l)])
	for i, c := range l {
		l[i].Lines = full(c.Lines[:cap(c.Lines)])
	}
	return l
}

// spoil changes all that l reaches, spare room too.
func spoil(l []api.Cell) {
	l = l[:cap(l)]
	for i := range l {
		lines := l[i].Lines[:cap(l[i].Lines)]
		for k := range lines {
			lines[k] = api.Line{Class: -9, Found: -9}
		}
		l[i] = api.Cell{Site: api.Site{Class: -9, Name: "spoilt", At: -9}, Epoch: -9, Many: true}
	}
}

// roomy is l with spare room behind each of its lists, that is not empty.
func roomy(l []api.Cell) []api.Cell {
	cells := make([]api.Cell, len(l), len(l)+2)
	copy(cells, l)
	for i, c := range cells {
		lines := make([]api.Line, len(c.Lines), len(c.Lines)+2)
		copy(lines, c.Lines)
		more := lines[:cap(lines)]
		more[len(lines)] = api.Line{Class: 4, Found: 77}
		more[len(lines)+1] = api.Line{Class: 5, Found: 78}
		cells[i].Lines = lines
	}
	more := cells[:cap(cells)]
	more[len(l)] = api.Cell{Site: here, Epoch: 3, Lines: []api.Line{{Class: 4, Found: 79}}}
	more[len(l)+1] = api.Cell{Site: there, Epoch: 3, Lines: []api.Line{{Class: 4, Found: 80}}}
	return cells
}

func cell(s api.Site, epoch int, lines ...api.Line) api.Cell {
	return api.Cell{Site: s, Epoch: epoch, Lines: lines}
}

func many(s api.Site, epoch int, lines ...api.Line) api.Cell {
	return api.Cell{Site: s, Epoch: epoch, Many: true, Lines: lines}
}

func line(c, found int) api.Line {
	return api.Line{Class: c, Found: found}
}

// world has class 4 with "get" and "sum", 5 in it with a "get" of its own, and 6 in 5.
func world(t *testing.T) api.World {
	t.Helper()
	w := class.New()
	for i, name := range []string{"Box", "Odd", "Last"} {
		super := api.ClassObject
		if i > 0 {
			super = api.ClassFirst + i - 1
		}
		var err api.Errno
		if w, _, err = class.Make(w, name, super, 1); err != api.OK {
			t.Fatal(err)
		}
	}
	for _, m := range []struct {
		c    int
		name string
	}{{4, "get"}, {4, "sum"}, {5, "get"}} {
		var err api.Errno
		if w, err = class.Install(w, m.c, api.Method{Name: m.name}); err != api.OK {
			t.Fatal(err)
		}
	}
	return w
}

func TestF1Own(t *testing.T) {
	for _, l := range [][]api.Cell{
		nil,
		{},
		{cell(here, 2)},
		{cell(here, 2, line(4, 4), line(5, 4)), many(there, 3), cell(here, 1, line(1, 1))},
		{many(api.Site{Class: -1, Name: "", At: math.MinInt}, -5, line(-1, -1), line(2, 2), line(3, 3), line(4, 4), line(4, 4))},
	} {
		in := roomy(l)
		before := open(in)
		got := Own(in)
		if !same(got, l) {
			t.Errorf("Own(%v) is %v", l, got)
		}
		spoil(got)
		if !reflect.DeepEqual(open(in), before) {
			t.Errorf("Own(%v) shares memory with it", l)
		}
	}
}

func TestF1Get(t *testing.T) {
	l := []api.Cell{
		cell(here, 2, line(4, 4), line(5, 0), line(4, 9)),
		cell(here, 3, line(6, 6)),
		many(there, 2),
		cell(api.Site{}, 0, line(0, 0)),
		cell(api.Site{Class: -1, Name: "odd\x00", At: -1}, -1, line(-1, -7), line(math.MaxInt, math.MinInt)),
		many(api.Site{Name: "many"}, 1, line(4, 5)),
		cell(api.Site{Name: "more"}, 1, line(1, 1), line(2, 2), line(3, 3), line(4, 6), line(5, 7)),
	}
	for _, x := range []struct {
		s        api.Site
		epoch, c int
		want     int
	}{
		{here, 2, 4, 4},
		{here, 2, 5, 0},
		{here, 2, 6, -1},
		{here, 2, -1, -1},
		{here, 3, 4, -1},
		{here, 1, 4, -1},
		{here, 3, 6, -1}, // a site's cell is the first one alone
		{there, 2, 4, -1},
		{api.Site{Class: 5, Name: "sum", At: 1}, 2, 4, -1},
		{api.Site{Class: 4, Name: "Sum", At: 1}, 2, 4, -1},
		{api.Site{Class: 4, Name: "sum", At: 2}, 2, 4, -1},
		{api.Site{}, 0, 0, 0},
		{api.Site{Class: -1, Name: "odd\x00", At: -1}, -1, -1, -7},
		{api.Site{Class: -1, Name: "odd\x00", At: -1}, -1, math.MaxInt, math.MinInt},
		{api.Site{Name: "many"}, 1, 4, 5},
		{api.Site{Name: "more"}, 1, 4, 6},
		{api.Site{Name: "more"}, 1, 5, 7},
	} {
		in := roomy(l)
		before := open(in)
		if got := Get(in, x.s, x.epoch, x.c); got != x.want {
			t.Errorf("Get of %v, %d, %d is %d, not %d", x.s, x.epoch, x.c, got, x.want)
		}
		if !reflect.DeepEqual(open(in), before) {
			t.Errorf("Get of %v, %d, %d changes what it is handed", x.s, x.epoch, x.c)
		}
	}
	for _, none := range [][]api.Cell{nil, {}, roomy(nil)} {
		if got := Get(none, here, 3, 4); got != -1 {
			t.Errorf("Get of no cells is %d", got)
		}
	}
}

// What was found for class 5 at epoch 3 is not remembered at epoch 2.
func TestF1GetOfAnotherEpoch(t *testing.T) {
	l := Put(nil, here, 3, 5, 4)
	if got := Get(l, here, 3, 5); got != 4 {
		t.Errorf("at epoch 3 it is %d", got)
	}
	if got := Get(l, here, 2, 5); got != -1 {
		t.Errorf("at epoch 2 it is %d", got)
	}
}

func TestF1Put(t *testing.T) {
	three := []api.Line{line(4, 4), line(5, 4), line(6, 4)}
	for _, x := range []struct {
		l        []api.Cell
		s        api.Site
		epoch    int
		c, found int
		want     []api.Cell
	}{
		{nil, here, 2, 4, 4, []api.Cell{cell(here, 2, line(4, 4))}},
		{[]api.Cell{}, api.Site{}, 0, 0, 0, []api.Cell{cell(api.Site{}, 0, line(0, 0))}},
		{nil, here, -2, -4, -1, []api.Cell{cell(here, -2, line(-4, -1))}},
		{[]api.Cell{cell(here, 2, line(4, 4))}, there, 3, 5, 4, []api.Cell{cell(here, 2, line(4, 4)), cell(there, 3, line(5, 4))}},
		{[]api.Cell{cell(here, 2)}, here, 2, 4, 4, []api.Cell{cell(here, 2, line(4, 4))}},
		{[]api.Cell{cell(here, 2, line(5, 5))}, here, 2, 4, 4, []api.Cell{cell(here, 2, line(5, 5), line(4, 4))}},
		{[]api.Cell{cell(here, 2, three[:2]...)}, here, 2, 6, 4, []api.Cell{cell(here, 2, three...)}},
		// a line of the class is there: it stays, whatever was found
		{[]api.Cell{cell(here, 2, line(4, 4))}, here, 2, 4, 0, []api.Cell{cell(here, 2, line(4, 4))}},
		{[]api.Cell{cell(here, 2, three...)}, here, 2, 6, 9, []api.Cell{cell(here, 2, three...)}},
		{[]api.Cell{cell(here, 2, line(4, -1))}, here, 2, 4, 4, []api.Cell{cell(here, 2, line(4, -1))}},
		// there is no room
		{[]api.Cell{cell(here, 2, three...)}, here, 2, 7, 4, []api.Cell{many(here, 2)}},
		{[]api.Cell{cell(here, 2, append(three, line(8, 4))...)}, here, 2, 7, 4, []api.Cell{many(here, 2)}},
		// it is Many: it stays, its lines too, if it has any
		{[]api.Cell{many(here, 2)}, here, 2, 4, 4, []api.Cell{many(here, 2)}},
		{[]api.Cell{many(here, 2, line(5, 5))}, here, 2, 4, 4, []api.Cell{many(here, 2, line(5, 5))}},
		// another epoch, later or earlier: anew
		{[]api.Cell{cell(here, 2, three...)}, here, 3, 7, 4, []api.Cell{cell(here, 3, line(7, 4))}},
		{[]api.Cell{cell(here, 2, line(4, 4))}, here, 1, 4, 0, []api.Cell{cell(here, 1, line(4, 0))}},
		{[]api.Cell{many(here, 2)}, here, 3, 4, 4, []api.Cell{cell(here, 3, line(4, 4))}},
		// in its place, and the first one alone
		{[]api.Cell{cell(there, 1, line(1, 1)), cell(here, 2, line(5, 5)), cell(here, 3)}, here, 3, 4, 4,
			[]api.Cell{cell(there, 1, line(1, 1)), cell(here, 3, line(4, 4)), cell(here, 3)}},
		{[]api.Cell{cell(here, 2), cell(here, 2, line(4, 4))}, here, 2, 4, 9, []api.Cell{cell(here, 2, line(4, 9)), cell(here, 2, line(4, 4))}},
	} {
		in := roomy(x.l)
		before := open(in)
		got := Put(in, x.s, x.epoch, x.c, x.found)
		if !same(got, x.want) {
			t.Errorf("Put(%v, %v, %d, %d, %d) is %v, not %v", x.l, x.s, x.epoch, x.c, x.found, got, x.want)
		}
		spoil(got)
		if !reflect.DeepEqual(open(in), before) {
			t.Errorf("Put(%v, ..) changes what it is handed, or shares memory with it", x.l)
		}
	}
}

func TestF1PutKeepsNothingOfItsAnswers(t *testing.T) {
	first := Put(nil, here, 2, 4, 4)
	second := Put(first, here, 2, 5, 5)
	third := Put(first, here, 2, 6, 6)
	want := []api.Cell{cell(here, 2, line(4, 4), line(5, 5))}
	spoil(third)
	if !same(second, want) {
		t.Errorf("two answers share memory: %v, not %v", second, want)
	}
}

// As many lines as there is room for are remembered, then none.
func TestF1PutThenGet(t *testing.T) {
	var l []api.Cell
	for c := range api.MaxLines {
		l = Put(l, here, 2, c, c+1)
		l = Put(l, there, 2, c, c+2)
	}
	for c := range api.MaxLines {
		if got := Get(l, here, 2, c); got != c+1 {
			t.Errorf("of class %d it is %d", c, got)
		}
	}
	l = Put(l, here, 2, api.MaxLines, 9)
	for c := range api.MaxLines + 1 {
		if got := Get(l, here, 2, c); got != -1 {
			t.Errorf("of class %d, of too many, it is %d", c, got)
		}
	}
	if got := Get(l, there, 2, 1); got != 3 {
		t.Errorf("at the other site it is %d", got)
	}
}

func TestF1Find(t *testing.T) {
	w := world(t)
	epoch := w.Epoch
	for _, x := range []struct {
		what          string
		l             []api.Cell
		c             int
		name          string
		cells         []api.Cell
		found, number int
		hit           bool
	}{
		{"not remembered, found", nil, 4, "get", []api.Cell{cell(here, epoch, line(4, 4))}, 4, 0, false},
		{"found above", nil, 6, "sum", []api.Cell{cell(here, epoch, line(6, 4))}, 4, 1, false},
		{"found nearer", nil, 6, "get", []api.Cell{cell(here, epoch, line(6, 5))}, 5, 0, false},
		{"found in Int", nil, api.ClassInt, "+", []api.Cell{cell(here, epoch, line(3, 3))}, 3, 1, false},
		{"not found", nil, 4, "nope", nil, -1, -1, false},
		{"no name", nil, 4, "", nil, -1, -1, false},
		{"no class below", nil, -1, "get", nil, -1, -1, false},
		{"no class above", nil, 7, "get", nil, -1, -1, false},
		{"not found changes nothing", []api.Cell{cell(here, epoch-1, line(4, 4))}, 4, "nope", []api.Cell{cell(here, epoch-1, line(4, 4))}, -1, -1, false},
		{"remembered", []api.Cell{cell(here, epoch, line(4, 4))}, 4, "get", []api.Cell{cell(here, epoch, line(4, 4))}, 4, 0, true},
		{"remembered: what it says is taken", []api.Cell{cell(here, epoch, line(6, 4))}, 6, "get", []api.Cell{cell(here, epoch, line(6, 4))}, 4, 0, true},
		{"remembered: found above it", []api.Cell{cell(here, epoch, line(6, 5))}, 6, "sum", []api.Cell{cell(here, epoch, line(6, 5))}, 4, 1, true},
		{"remembered, where it is not", []api.Cell{cell(here, epoch, line(4, 0))}, 4, "get", []api.Cell{cell(here, epoch, line(4, 0))}, -1, -1, true},
		{"remembered, of no class", []api.Cell{cell(here, epoch, line(99, 4))}, 99, "sum", []api.Cell{cell(here, epoch, line(99, 4))}, 4, 1, true},
		{"remembered, the last class", []api.Cell{cell(here, epoch, line(4, 6))}, 4, "get", []api.Cell{cell(here, epoch, line(4, 6))}, 5, 0, true},
		{"remembered, one behind the last", []api.Cell{cell(here, epoch, line(4, 7))}, 4, "get", []api.Cell{cell(here, epoch, line(4, 7))}, 4, 0, false},
		{"remembered, below", []api.Cell{cell(here, epoch, line(4, -1))}, 4, "get", []api.Cell{cell(here, epoch, line(4, -1))}, 4, 0, false},
		{"of another epoch", []api.Cell{cell(here, epoch-1, line(4, 0), line(5, 5))}, 4, "get", []api.Cell{cell(here, epoch, line(4, 4))}, 4, 0, false},
		{"of another site", []api.Cell{cell(there, epoch, line(4, 0))}, 4, "get", []api.Cell{cell(there, epoch, line(4, 0)), cell(here, epoch, line(4, 4))}, 4, 0, false},
		{"of another class", []api.Cell{cell(here, epoch, line(5, 5))}, 4, "get", []api.Cell{cell(here, epoch, line(5, 5), line(4, 4))}, 4, 0, false},
		{"one too many", []api.Cell{cell(here, epoch, line(1, 1), line(2, 2), line(3, 3))}, 4, "get", []api.Cell{many(here, epoch)}, 4, 0, false},
		{"too many", []api.Cell{many(here, epoch)}, 4, "get", []api.Cell{many(here, epoch)}, 4, 0, false},
	} {
		in := roomy(x.l)
		before, worldBefore := open(in), class.Own(w)
		cells, found, number, hit := Find(in, w, here, x.c, x.name)
		if !same(cells, x.cells) || found != x.found || number != x.number || hit != x.hit {
			t.Errorf("%s: Find(%v, %d, %q) is %v, %d, %d, %v", x.what, x.l, x.c, x.name, cells, found, number, hit)
		}
		spoil(cells)
		if !reflect.DeepEqual(open(in), before) {
			t.Errorf("%s: Find changes what it is handed, or shares memory with it", x.what)
		}
		if !reflect.DeepEqual(class.Own(w), worldBefore) {
			t.Errorf("%s: Find changes the world", x.what)
		}
	}
}

// Remembered or not, it is the same: also when methods change, since the epoch does then.
func TestF1FindIsAsWithoutCells(t *testing.T) {
	w := world(t)
	sites := []struct {
		s    api.Site
		name string
	}{{here, "get"}, {there, "sum"}, {api.Site{Class: 5, Name: "get", At: 0}, "nope"}}
	var l []api.Cell
	check := func() {
		t.Helper()
		for range 2 {
			for _, c := range []int{4, 5, 6, 3, 0, 99, -1, 4} {
				for _, x := range sites {
					var found, number int
					l, found, number, _ = Find(l, w, x.s, c, x.name)
					k, i := class.Find(w, c, x.name)
					if found != k || number != i {
						t.Errorf("at epoch %d class %d finds %q in %d as %d, not in %d as %d", w.Epoch, c, x.name, found, number, k, i)
					}
				}
			}
		}
	}
	check()
	for _, m := range []struct {
		c    int
		name string
	}{{6, "get"}, {4, "a"}, {0, "nope"}, {5, "sum"}} {
		w, _ = class.Install(w, m.c, api.Method{Name: m.name})
		check()
	}
}

func TestF1FindOfOddWorlds(t *testing.T) {
	if l, found, number, hit := Find(nil, api.World{}, here, 0, "get"); len(l) != 0 || found != -1 || number != -1 || hit {
		t.Errorf("of no world it is %v, %d, %d, %v", l, found, number, hit)
	}
	round := api.World{Classes: []api.Class{{Super: 1}, {Super: 0}}}
	if l, found, number, hit := Find([]api.Cell{cell(here, 0, line(0, 1))}, round, here, 0, "get"); len(l) != 1 || found != -1 || number != -1 || !hit {
		t.Errorf("of classes above themselves it is %v, %d, %d, %v", l, found, number, hit)
	}
	below := api.World{Classes: []api.Class{{Super: -1, Methods: []api.Method{{Name: "get"}}}}, Epoch: -3}
	if l, found, number, hit := Find(nil, below, here, 0, "get"); !same(l, []api.Cell{cell(here, -3, line(0, 0))}) || found != 0 || number != 0 || hit {
		t.Errorf("of an epoch below 0 it is %v, %d, %d, %v", l, found, number, hit)
	}
}
