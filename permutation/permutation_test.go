package permutation

import (
	"fmt"
	"testing"

	"roundtable/api"
)

func want(t *testing.T, what string, got, wanted any) {
	t.Helper()
	if fmt.Sprint(got) != fmt.Sprint(wanted) {
		t.Errorf("%s: got %v, want %v", what, got, wanted)
	}
}

func TestExamples(t *testing.T) {
	a, b := []int{1, 2, 0, 3}, []int{1, 0, 3, 2}
	c, _ := Compose(a, b)
	want(t, "a b", c, []int{2, 1, 3, 0})
	c, _ = Compose(b, a)
	want(t, "b a", c, []int{0, 3, 1, 2})
	c, _ = Inverse(a)
	want(t, "inverse", c, []int{2, 0, 1, 3})
	for _, x := range []struct {
		a     []int
		order int
		text  string
	}{{a, 3, "(0 1 2)"}, {b, 2, "(0 1)(2 3)"}} {
		n, _ := Order(x.a)
		want(t, "Order", n, x.order)
		odd, _ := Odd(x.a)
		want(t, "Odd", odd, false)
		s, _ := Format(x.a)
		want(t, "Format", s, x.text)
	}
	set, _ := Set(a, 9)
	want(t, "Set", set, 10)
	v, _ := Vector(a, []int{5, 6, 7, 8})
	want(t, "Vector", v, []int{7, 5, 6, 8})
	l, _ := Generate(3, [][]int{{1, 2, 0}})
	want(t, "Generate", l, [][]int{{0, 1, 2}, {1, 2, 0}, {2, 0, 1}})
}

func TestErrors(t *testing.T) {
	for _, x := range []struct {
		a []int
		e api.Errno
	}{{nil, api.ErrRange}, {make([]int, 6), api.ErrRange}, {[]int{0, 0, 9}, api.ErrTwice}, {[]int{0, 9, 0}, api.ErrRange}, {[]int{-1}, api.ErrRange}, {[]int{0}, api.OK}} {
		want(t, "Check", Check(x.a), x.e)
		_, e := Inverse(x.a)
		want(t, "Inverse", e, x.e)
		_, e = Compose(x.a, []int{0})
		want(t, "Compose", e, x.e)
		_, e = Compose([]int{0}, x.a)
		want(t, "Compose", e, x.e)
		_, e = Order(x.a)
		want(t, "Order", e, x.e)
		_, e = Odd(x.a)
		want(t, "Odd", e, x.e)
		_, e = Format(x.a)
		want(t, "Format", e, x.e)
		_, e = Set(x.a, 0)
		want(t, "Set", e, x.e)
		_, e = Vector(x.a, []int{7})
		want(t, "Vector", e, x.e)
	}
	_, e := Compose([]int{0}, []int{1, 0})
	want(t, "Compose", e, api.ErrMismatch)
	for _, set := range []int{-1, 4} {
		_, e = Set([]int{1, 0}, set)
		want(t, "Set", e, api.ErrRange)
	}
	_, e = Vector([]int{1, 0}, nil)
	want(t, "Vector", e, api.ErrShape)
	for _, n := range []int{-1, 0, 6} {
		_, e = Identity(n)
		want(t, "Identity", e, api.ErrRange)
		_, e = All(n)
		want(t, "All", e, api.ErrRange)
		_, e = Generate(n, make([][]int, 2000))
		want(t, "Generate", e, api.ErrRange)
		_, e = Parse(n, "")
		want(t, "Parse", e, api.ErrRange)
	}
	for _, x := range []struct {
		l [][]int
		e api.Errno
	}{{make([][]int, 1025), api.ErrMany}, {[][]int{{1, 0}, {0, 0}}, api.ErrTwice}, {[][]int{{1, 0}, {0, 1, 2}}, api.ErrMismatch}, {[][]int{{0}, {0, 0}}, api.ErrMismatch}} {
		_, e = Generate(2, x.l)
		want(t, "Generate", e, x.e)
	}
	for s, wanted := range map[string]api.Errno{"(1 0)": api.ErrSyntax, "": api.ErrSyntax, "(0)": api.ErrSyntax, "(0 1)()": api.ErrSyntax, "()": api.OK, "0123456789012345678901234": api.ErrLong} {
		_, e = Parse(3, s)
		want(t, "Parse "+s, e, wanted)
	}
}

func TestConsequences(t *testing.T) {
	for n := 1; n <= 4; n++ {
		all, _ := All(n)
		one, _ := Identity(n)
		for i, a := range all {
			if i > 0 && fmt.Sprint(all[i-1]) >= fmt.Sprint(a) {
				t.Errorf("order of %v", a)
			}
			inverse, _ := Inverse(a)
			c, _ := Compose(a, inverse)
			want(t, "inverse", c, one)
			s, _ := Format(a)
			back, _ := Parse(n, s)
			want(t, "Parse", back, a)
			order, _ := Order(a)
			group, _ := Generate(n, [][]int{a})
			want(t, "order and group", len(group), order)
			for _, b := range all {
				c, _ := Compose(a, b)
				oddA, _ := Odd(a)
				oddB, _ := Odd(b)
				odd, _ := Odd(c)
				want(t, "Odd", odd, oddA != oddB)
				set, _ := Set(b, 1<<n-1-1)
				set, _ = Set(a, set)
				both, _ := Set(c, 1<<n-1-1)
				want(t, "Set", set, both)
				v, _ := Vector(b, one)
				v, _ = Vector(a, v)
				w, _ := Vector(c, one)
				want(t, "Vector", v, w)
				group, _ := Generate(n, [][]int{a, b})
				if len(all)%len(group) != 0 {
					t.Errorf("a group of %d", len(group))
				}
			}
		}
	}
}

func TestMemory(t *testing.T) {
	a := []int{1, 0, 2, 7, 7}
	b, _ := Compose(a[:3], []int{0, 1, 2})
	b[0] = 9
	l, _ := Generate(3, [][]int{a[:3]})
	l[1][0] = 9
	want(t, "argument", a, []int{1, 0, 2, 7, 7})
}
