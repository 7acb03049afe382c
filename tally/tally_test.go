package tally

import (
	"math"
	"reflect"
	"testing"

	"quickchange/api"
)

var (
	here  = api.Site{Class: 4, Name: "sum", At: 1}
	there = api.Site{Class: 4, Name: "sum", At: 3}
)

// full is a list of the same entries without spare room, nil if there are none, so that DeepEqual tells of entries alone.
func full[T any](l []T) []T {
	if len(l) == 0 {
		return nil
	}
	return append(make([]T, 0, len(l)), l...)
}

func plain(l []api.Tally) []api.Tally {
	l = full(l)
	for i := range l {
		l[i].Classes = full(l[i].Classes)
	}
	return l
}

func same(a, b []api.Tally) bool {
	return reflect.DeepEqual(plain(a), plain(b))
}

// open is l with its lists' spare room told as entries, so that changes there are seen.
func open(l []api.Tally) []api.Tally {
	l = full(l[:cap(l)])
	for i, x := range l {
		l[i].Classes = full(x.Classes[:cap(x.Classes)])
	}
	return l
}

// spoil changes all that l reaches, spare room too.
func spoil(l []api.Tally) {
	l = l[:cap(l)]
	for i := range l {
		lines := l[i].Classes[:cap(l[i].Classes)]
		for k := range lines {
			lines[k] = api.Line{Class: -9, Found: -9}
		}
		l[i] = api.Tally{Site: api.Site{Class: -9, Name: "spoilt", At: -9}}
	}
}

// roomy is l with spare room behind each of its lists, that is not empty.
func roomy(l []api.Tally) []api.Tally {
	tallies := make([]api.Tally, len(l), len(l)+2)
	copy(tallies, l)
	for i, x := range tallies {
		lines := make([]api.Line, len(x.Classes), len(x.Classes)+2)
		copy(lines, x.Classes)
		more := lines[:cap(lines)]
		more[len(lines)] = line(4, 770)
		more[len(lines)+1] = line(5, 780)
		tallies[i].Classes = lines
	}
	more := tallies[:cap(tallies)]
	more[len(l)] = tally(here, line(4, 790))
	more[len(l)+1] = tally(there, line(4, 800))
	return tallies
}

func tally(s api.Site, lines ...api.Line) api.Tally {
	return api.Tally{Site: s, Classes: lines}
}

func line(c, found int) api.Line {
	return api.Line{Class: c, Found: found}
}

// others are sites that are nearly here.
func others() []api.Site {
	return []api.Site{
		there,
		{},
		{Class: 5, Name: "sum", At: 1},
		{Class: 4, Name: "Sum", At: 1},
		{Class: 4, Name: "sum\x00", At: 1},
		{Class: 4, Name: "", At: 1},
		{Class: 4, Name: "sum", At: -1},
	}
}

func TestG1Own(t *testing.T) {
	for _, l := range [][]api.Tally{
		nil,
		{},
		{tally(here)},
		{tally(here, line(4, 2), line(5, 0)), tally(there), tally(here, line(4, 1), line(4, 1))},
		{tally(api.Site{Class: -1, Name: "odd\x00", At: math.MinInt}, line(-1, -1), line(math.MaxInt, math.MinInt))},
	} {
		in := roomy(l)
		before := open(in)
		got := Own(in)
		if !same(got, l) {
			t.Errorf("Own(%v) is %v", l, got)
		}
		spoil(got)
		if !reflect.DeepEqual(open(in), before) {
			t.Errorf("Own(%v) changes what it is handed, or shares memory with it", l)
		}
	}
}

// No two lists of one answer share memory, not even behind their ends.
func TestG1OwnListsAreApart(t *testing.T) {
	lines := []api.Line{line(4, 1), line(5, 2)}
	got := Own([]api.Tally{tally(here, lines...), tally(there, lines...)})
	got[0].Classes[1].Found = 9
	got[0].Classes = append(got[0].Classes, line(6, 6))
	if want := tally(there, line(4, 1), line(5, 2)); !same(got[1:], []api.Tally{want}) {
		t.Errorf("a change of the first tally is seen in the second one: %v", got[1])
	}
}

func TestG1Add(t *testing.T) {
	for _, x := range []struct {
		what string
		l    []api.Tally
		s    api.Site
		c    int
		want []api.Tally
	}{
		{"nothing yet", nil, here, 4, []api.Tally{tally(here, line(4, 1))}},
		{"an empty list", []api.Tally{}, api.Site{}, 0, []api.Tally{tally(api.Site{}, line(0, 1))}},
		{"a class that is there", []api.Tally{tally(here, line(4, 1))}, here, 4, []api.Tally{tally(here, line(4, 2))}},
		{"a class of none yet", []api.Tally{tally(here, line(4, 0))}, here, 4, []api.Tally{tally(here, line(4, 1))}},
		{"a tally without lines", []api.Tally{tally(here)}, here, 4, []api.Tally{tally(here, line(4, 1))}},
		{"a lesser class comes last", []api.Tally{tally(here, line(5, 7))}, here, 4, []api.Tally{tally(here, line(5, 7), line(4, 1))}},
		{"a line keeps its place", []api.Tally{tally(here, line(5, 1), line(4, 1), line(6, 1))}, here, 4, []api.Tally{tally(here, line(5, 1), line(4, 2), line(6, 1))}},
		{"the first line of a class alone", []api.Tally{tally(here, line(5, 1), line(4, 0), line(4, 8))}, here, 4, []api.Tally{tally(here, line(5, 1), line(4, 1), line(4, 8))}},
		{"another site comes last", []api.Tally{tally(there, line(4, 3))}, here, 4, []api.Tally{tally(there, line(4, 3)), tally(here, line(4, 1))}},
		{"a tally keeps its place", []api.Tally{tally(there, line(4, 3)), tally(here, line(4, 1)), tally(api.Site{}, line(4, 2))}, here, 4,
			[]api.Tally{tally(there, line(4, 3)), tally(here, line(4, 2)), tally(api.Site{}, line(4, 2))}},
		{"the first tally alone", []api.Tally{tally(here, line(4, 1)), tally(here, line(4, 8))}, here, 4, []api.Tally{tally(here, line(4, 2)), tally(here, line(4, 8))}},
		{"the first tally alone, without such a line", []api.Tally{tally(here, line(5, 1)), tally(here, line(4, 8))}, here, 4,
			[]api.Tally{tally(here, line(5, 1), line(4, 1)), tally(here, line(4, 8))}},
		{"many lines", []api.Tally{tally(here, line(0, 1), line(1, 1), line(2, 1), line(3, 1), line(5, 1))}, here, 4,
			[]api.Tally{tally(here, line(0, 1), line(1, 1), line(2, 1), line(3, 1), line(5, 1), line(4, 1))}},
		{"no class", nil, api.Site{Class: -1, Name: "odd\x00", At: -1}, -1, []api.Tally{tally(api.Site{Class: -1, Name: "odd\x00", At: -1}, line(-1, 1))}},
		{"a class far off", nil, here, math.MaxInt, []api.Tally{tally(here, line(math.MaxInt, 1))}},
	} {
		in := roomy(x.l)
		before := open(in)
		got := Add(in, x.s, x.c)
		if !same(got, x.want) {
			t.Errorf("%s: Add(%v, %v, %d) is %v, not %v", x.what, x.l, x.s, x.c, got, x.want)
		}
		spoil(got)
		if !reflect.DeepEqual(open(in), before) {
			t.Errorf("%s: Add changes what it is handed, or shares memory with it", x.what)
		}
	}
}

func TestG1AddOfOtherSites(t *testing.T) {
	for _, s := range others() {
		got := Add([]api.Tally{tally(here, line(4, 1))}, s, 4)
		if want := []api.Tally{tally(here, line(4, 1)), tally(s, line(4, 1))}; !same(got, want) {
			t.Errorf("Add at %v is %v, not %v", s, got, want)
		}
	}
}

func TestG1AddKeepsNothingOfItsAnswers(t *testing.T) {
	first := Add(Add(Add(nil, here, 4), here, 5), here, 6)
	second := Add(first, here, 7)
	third := Add(first, here, 8)
	spoil(third)
	if want := []api.Tally{tally(here, line(4, 1), line(5, 1), line(6, 1), line(7, 1))}; !same(second, want) {
		t.Errorf("two answers share memory: %v, not %v", second, want)
	}
	if want := []api.Tally{tally(here, line(4, 1), line(5, 1), line(6, 1))}; !same(first, want) {
		t.Errorf("what was handed in is changed: %v, not %v", first, want)
	}
}

func TestG1AllAndMost(t *testing.T) {
	for _, x := range []struct {
		what             string
		l                []api.Tally
		all, class, most int
	}{
		{"nothing", nil, 0, -1, 0},
		{"an empty list", []api.Tally{}, 0, -1, 0},
		{"a tally without lines", []api.Tally{tally(here)}, 0, -1, 0},
		{"another site", []api.Tally{tally(there, line(4, 3))}, 0, -1, 0},
		{"none above 0", []api.Tally{tally(here, line(4, 0), line(2, 0)), tally(here, line(0, 0))}, 0, -1, 0},
		{"one", []api.Tally{tally(here, line(4, 1))}, 1, 4, 1},
		{"the greatest is last", []api.Tally{tally(here, line(4, 1), line(5, 2), line(6, 3))}, 6, 6, 3},
		{"the greatest is first", []api.Tally{tally(here, line(4, 3), line(5, 2), line(6, 1))}, 6, 4, 3},
		{"the greatest is between", []api.Tally{tally(here, line(0, 2), line(6, 3), line(1, 2))}, 7, 6, 3},
		{"as many, the least is last", []api.Tally{tally(here, line(6, 2), line(5, 2), line(4, 2))}, 6, 4, 2},
		{"as many, the least is first", []api.Tally{tally(here, line(4, 2), line(5, 2), line(6, 2))}, 6, 4, 2},
		{"a lesser class of fewer", []api.Tally{tally(here, line(6, 2), line(5, 2), line(0, 1))}, 5, 5, 2},
		{"class 0", []api.Tally{tally(here, line(1, 2), line(0, 2))}, 4, 0, 2},
		{"a lesser class of none", []api.Tally{tally(here, line(4, 1), line(0, 0))}, 1, 4, 1},
		{"the other site's are not counted", []api.Tally{tally(there, line(4, 9)), tally(here, line(5, 2)), tally(there, line(6, 9))}, 2, 5, 2},
		{"all tallies of the site", []api.Tally{tally(here, line(4, 2)), tally(there, line(7, 9)), tally(here, line(5, 3), line(6, 1))}, 6, 5, 3},
		{"as many, the least in a later tally", []api.Tally{tally(here, line(5, 3)), tally(here, line(4, 3))}, 6, 4, 3},
		{"as many, the least in an earlier tally", []api.Tally{tally(here, line(4, 3)), tally(here, line(5, 3))}, 6, 4, 3},
		{"lines of one class stay apart, in one tally", []api.Tally{tally(here, line(4, 2), line(5, 3), line(4, 2))}, 7, 5, 3},
		{"lines of one class stay apart, in two", []api.Tally{tally(here, line(4, 2)), tally(here, line(5, 3), line(4, 2))}, 7, 5, 3},
		{"the greatest number there is", []api.Tally{tally(here, line(4, math.MaxInt-1), line(5, 1))}, math.MaxInt, 4, math.MaxInt - 1},
		{"no class", []api.Tally{tally(here, line(4, 1), line(-7, 1))}, 2, -7, 1},
		{"no class, of none", []api.Tally{tally(here, line(-7, 0))}, 0, -1, 0},
		{"below 0", []api.Tally{tally(here, line(4, -1), line(-7, math.MinInt+2))}, math.MinInt + 1, -1, 0},
		{"below 0, and above", []api.Tally{tally(here, line(4, -1), line(5, 3), line(-7, 0))}, 2, 5, 3},
	} {
		in := roomy(x.l)
		before := open(in)
		if got := All(in, here); got != x.all {
			t.Errorf("%s: All is %d, not %d", x.what, got, x.all)
		}
		if c, n := Most(in, here); c != x.class || n != x.most {
			t.Errorf("%s: Most is %d, %d, not %d, %d", x.what, c, n, x.class, x.most)
		}
		if !reflect.DeepEqual(open(in), before) {
			t.Errorf("%s: what is handed in is changed", x.what)
		}
	}
}

func TestG1AllAndMostOfOtherSites(t *testing.T) {
	l := []api.Tally{tally(here, line(4, 3))}
	for _, s := range others() {
		if got := All(l, s); got != 0 {
			t.Errorf("All at %v is %d", s, got)
		}
		if c, n := Most(l, s); c != -1 || n != 0 {
			t.Errorf("Most at %v is %d, %d", s, c, n)
		}
	}
}

// Of three receivers two were of class 4.
func TestG1TwoOfThree(t *testing.T) {
	l := Add(Add(Add(nil, here, 4), here, 5), here, 4)
	if got := All(l, here); got != 3 {
		t.Errorf("there were %d", got)
	}
	if c, n := Most(l, here); c != 4 || n != 2 {
		t.Errorf("of class %d there were %d", c, n)
	}
}

// In whatever order receivers came, All and Most are the same; and one more is counted once, at its site alone.
func TestG1AnyOrder(t *testing.T) {
	var tryAll func(l []api.Tally, left []int)
	tryAll = func(l []api.Tally, left []int) {
		if len(left) == 0 {
			c, n := Most(l, here)
			if All(l, here) != 6 || c != 4 || n != 2 {
				t.Errorf("%v: %d in all, of class %d %d", l, All(l, here), c, n)
			}
			return
		}
		for i, c := range left {
			more := Add(l, here, c)
			if All(more, here) != All(l, here)+1 || All(more, there) != All(l, there) {
				t.Fatalf("Add(%v, .., %d) is %v", l, c, more)
			}
			rest := append(append([]int{}, left[:i]...), left[i+1:]...)
			tryAll(more, rest)
		}
	}
	tryAll(Add(nil, there, 6), []int{5, 4, 6, 4, 5, 3})
}
