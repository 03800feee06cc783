package simplex

import (
	"fmt"
	"slices"
	"testing"

	"roundtable/api"
)

func want(t *testing.T, what string, got, wanted any) {
	t.Helper()
	if fmt.Sprint(got) != fmt.Sprint(wanted) {
		t.Errorf("%s: got %v, want %v", what, got, wanted)
	}
}

type simplex = []api.Vertex

func v(color, label int) api.Vertex { return api.Vertex{Color: color, Label: label} }

var a, b, c = api.Vertex{Color: 0, Label: 5}, api.Vertex{Color: 1}, api.Vertex{Color: 1, Label: 2}

func TestExamples(t *testing.T) {
	s, e := Of(simplex{b, a, b})
	want(t, "Of", []any{s, e}, []any{simplex{a, b}, api.OK})
	l, e := Faces(simplex{a, b, c}, 2)
	want(t, "Faces", []any{l, e}, []any{[]simplex{{a, b}, {a, c}, {b, c}}, api.OK})
	ok, _ := Chromatic(simplex{a, b, c})
	n, _ := Colors(simplex{a, b, c})
	want(t, "Chromatic, Colors", []any{ok, n}, []any{false, 3})
	ok, _ = Chromatic(simplex{a, c})
	want(t, "Chromatic", ok, true)
	s, _ = Union(simplex{a, b}, simplex{b, c})
	want(t, "Union", s, simplex{a, b, c})
	s, _ = Meet(simplex{a, b}, simplex{b, c})
	want(t, "Meet", s, simplex{b})
	s, _ = Without(simplex{a, b}, simplex{b, c})
	want(t, "Without", s, simplex{a})
	_, e = Join(simplex{a, b}, simplex{b, c})
	want(t, "Join", e, api.ErrTwice)
	s, e = Join(simplex{a, c}, simplex{b})
	want(t, "Join", []any{s, e}, []any{simplex{a, b, c}, api.OK})
	s, _ = Restrict(simplex{a, b, c}, 2)
	want(t, "Restrict", s, simplex{b, c})
	s, _ = Restrict(simplex{a, b, c}, -4)
	want(t, "Restrict", s, simplex{})
	want(t, "Compare", []int{Compare(simplex{a}, simplex{a, b}), Compare(simplex{a, b}, simplex{b}), Compare(simplex{c}, simplex{b}), Compare(nil, nil), Compare(simplex{v(-5, 0)}, nil)}, []int{-1, -1, 1, 0, 1})
}

func long(n int) simplex {
	var s simplex
	for i := range n {
		s = append(s, api.Vertex{Color: i % 8, Label: i / 8})
	}
	return s
}

func TestErrors(t *testing.T) {
	for i, x := range []struct {
		s simplex
		e api.Errno
	}{
		{nil, api.ErrEmpty}, {make(simplex, 9), api.ErrMany}, {simplex{b, a}, api.ErrOrder}, {simplex{a, a, v(9, 9)}, api.ErrOrder}, {simplex{v(8, 0)}, api.ErrRange}, {simplex{v(-1, 0)}, api.ErrRange}, {simplex{v(0, -1)}, api.ErrRange}, {simplex{v(0, 1<<20+1)}, api.ErrRange},
	} {
		want(t, fmt.Sprint("Check ", i), Check(x.s), x.e)
		for _, pair := range [][2]simplex{{x.s, {a}}, {{a}, x.s}} {
			_, e := Face(pair[0], pair[1])
			want(t, "Face", e, x.e)
			_, e = Union(pair[0], pair[1])
			want(t, "Union", e, x.e)
			_, e = Meet(pair[0], pair[1])
			want(t, "Meet", e, x.e)
			_, e = Without(pair[0], pair[1])
			want(t, "Without", e, x.e)
			_, e = Join(pair[0], pair[1])
			want(t, "Join", e, x.e)
		}
		_, e := Faces(x.s, 9)
		want(t, "Faces", e, x.e)
		_, e = Colors(x.s)
		want(t, "Colors", e, x.e)
		_, e = Chromatic(x.s)
		want(t, "Chromatic", e, x.e)
		_, e = Restrict(x.s, 0)
		want(t, "Restrict", e, x.e)
	}
	for _, k := range []int{-1, 0, 3} {
		_, e := Faces(simplex{a, b}, k)
		want(t, "Faces", e, api.ErrRange)
	}
	for _, x := range []struct {
		l simplex
		e api.Errno
	}{{nil, api.ErrEmpty}, {append(long(9), api.Vertex{Color: 8}), api.ErrRange}, {long(9), api.ErrMany}, {append(long(8), long(8)...), api.OK}, {simplex{v(0, 1<<20)}, api.OK}} {
		_, e := Of(x.l)
		want(t, "Of", e, x.e)
	}
	u, w := simplex{v(0, 0), v(1, 0), v(2, 0), v(3, 0), v(4, 0)}, simplex{v(0, 1), v(1, 1), v(2, 1), v(3, 1)}
	_, e := Union(u, w)
	want(t, "Union", e, api.ErrMany)
	_, e = Join(u, w)
	want(t, "Join", e, api.ErrMany)
	_, e = Join(append(w, api.Vertex{Color: 4}), u)
	want(t, "Join", e, api.ErrTwice)
}

func TestConsequences(t *testing.T) {
	s := simplex{a, b, c, v(2, 0), v(2, 7), v(5, 1)}
	var all []simplex
	numbers := []int{6, 15, 20, 15, 6, 1}
	for k, number := range numbers {
		l, _ := Faces(s, k+1)
		want(t, "Faces", []any{len(l), slices.IsSortedFunc(l, Compare)}, []any{number, true})
		all = append(all, l...)
	}
	for _, x := range all {
		for _, y := range all {
			face, _ := Face(x, y)
			meet, _ := Meet(x, y)
			rest, _ := Without(x, y)
			union, _ := Union(x, y)
			want(t, "Face", face, slices.Equal(meet, x))
			want(t, "sizes", []int{len(meet) + len(rest), len(union) + len(meet)}, []int{len(x), len(x) + len(y)})
			join, e := Join(x, y)
			want(t, "Join", e == api.OK && slices.Equal(join, union), len(meet) == 0)
		}
		one, _ := Restrict(x, 5)
		other, _ := Restrict(x, ^5)
		both, _ := Of(append(one, other...))
		want(t, "Restrict", both, x)
		colors, _ := Colors(x)
		count := 0
		for color := range 8 {
			count += colors >> color & 1
		}
		chromatic, _ := Chromatic(x)
		want(t, "Chromatic", chromatic, count == len(x))
	}
	argument := append(make(simplex, 0, 9), b, a)
	_, _ = Of(argument)
	want(t, "argument", argument, simplex{b, a})
}
