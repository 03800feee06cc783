package simplicial

import (
	"fmt"
	"testing"

	"roundtable/api"
	"roundtable/chain"
	"roundtable/complex"
	"roundtable/matrix"
)

func want(t *testing.T, what string, got, wanted any) {
	t.Helper()
	if fmt.Sprint(got) != fmt.Sprint(wanted) {
		t.Errorf("%s: got %v, want %v", what, got, wanted)
	}
}

func v(color, label int) api.Vertex { return api.Vertex{Color: color, Label: label} }

// s returns the simplex of the vertices with some colors and the label 0.
func s(colors ...int) []api.Vertex {
	var l []api.Vertex
	for _, c := range colors {
		l = append(l, v(c, 0))
	}
	return l
}

func of(l ...[]api.Vertex) api.Complex {
	c, _ := complex.Of(l)
	return c
}

func to(colors ...int) api.Map {
	return api.Map{From: s(0, 1, 2, 3, 4)[:len(colors)], To: s(colors...)}
}

func TestExamples(t *testing.T) {
	m := to(0, 1, 0)
	l, e := Apply(m, s(0, 1, 2))
	want(t, "Apply", []any{l, e}, []any{s(0, 1), api.OK})
	l, _ = Apply(m, s(0, 2))
	want(t, "Apply", l, s(0))
	ok, e := Chromatic(m)
	want(t, "Chromatic", []any{ok, e}, []any{false, api.OK})
	ok, _ = Chromatic(to(0, 1))
	want(t, "Chromatic", ok, true)
	x, e := At(m, v(2, 0))
	want(t, "At", []any{x, e}, []any{v(0, 0), api.OK})
	a, b := of(s(0, 1), s(0, 2), s(1, 2)), of(s(0, 1))
	ok, e = Simplicial(m, a, b)
	want(t, "Simplicial", []any{ok, e}, []any{true, api.OK})
	ok, _ = Simplicial(to(0, 1, 2), a, b)
	want(t, "Simplicial", ok, false)
	i, e := Induced(m, a, b, 1)
	want(t, "Induced", []any{i, e}, []any{api.Matrix{Cols: 3, Rows: [][]int{{0, 2}}}, api.OK})
	i, _ = Induced(m, a, b, 0)
	want(t, "Induced", i, api.Matrix{Cols: 3, Rows: [][]int{{0, 2}, {1}}})
	i, e = Induced(m, a, b, 7)
	want(t, "Induced", []any{i, e}, []any{api.Matrix{}, api.OK})
	c, e := Compose(m, to(1, 0))
	want(t, "Compose", []any{c, e}, []any{to(1, 0, 1), api.OK})
	d, e := Image(m, of(s(0, 1), s(2)))
	want(t, "Image", []any{d, e}, []any{of(s(0, 1)), api.OK})
	d, e = Image(api.Map{}, api.Complex{})
	want(t, "Image", []any{d, e}, []any{api.Complex{}, api.OK})
}

func TestErrors(t *testing.T) {
	bad := api.Complex{Facets: [][]api.Vertex{nil}}
	good := of(s(0, 1))
	for i, x := range []struct {
		m api.Map
		e api.Errno
	}{
		{api.Map{From: make([]api.Vertex, 4097)}, api.ErrMany}, {api.Map{From: s(1, 0)}, api.ErrShape}, {api.Map{To: s(0)}, api.ErrShape}, {api.Map{From: []api.Vertex{v(8, 0)}, To: s(0)}, api.ErrRange}, {api.Map{From: s(0), To: []api.Vertex{v(0, -1)}}, api.ErrRange},
		{api.Map{From: s(0, 0), To: s(0, 0)}, api.ErrOrder}, {api.Map{From: s(0, 0, 9), To: s(0, 0, 0)}, api.ErrOrder}, {api.Map{From: s(0, 9, 0), To: s(0, 0, 0)}, api.ErrRange}, {api.Map{From: []api.Vertex{v(0, 1<<20+1)}, To: s(0)}, api.ErrRange},
	} {
		want(t, fmt.Sprint("Check ", i), Check(x.m), x.e)
		_, e := At(x.m, v(0, 0))
		want(t, "At", e, x.e)
		_, e = Apply(x.m, nil)
		want(t, "Apply", e, x.e)
		_, e = Image(x.m, bad)
		want(t, "Image", e, x.e)
		_, e = Simplicial(x.m, bad, bad)
		want(t, "Simplicial", e, x.e)
		_, e = Chromatic(x.m)
		want(t, "Chromatic", e, x.e)
		_, e = Compose(x.m, to(0))
		want(t, "Compose", e, x.e)
		_, e = Compose(to(0), x.m)
		want(t, "Compose", e, x.e)
		_, e = Induced(x.m, bad, bad, -1)
		want(t, "Induced", e, x.e)
	}
	m := to(0, 1)
	_, e := At(m, v(2, 0))
	want(t, "At", e, api.ErrNone)
	_, e = Apply(m, nil)
	want(t, "Apply", e, api.ErrEmpty)
	_, e = Apply(m, s(0, 2))
	want(t, "Apply", e, api.ErrNone)
	_, e = Image(m, bad)
	want(t, "Image", e, api.ErrEmpty)
	_, e = Image(m, of(s(0, 2)))
	want(t, "Image", e, api.ErrNone)
	_, e = Compose(to(0, 1, 2), m)
	want(t, "Compose", e, api.ErrNone)
	for _, x := range []struct {
		a, b api.Complex
		e    api.Errno
	}{{bad, good, api.ErrEmpty}, {good, bad, api.ErrEmpty}, {of(s(0, 2)), good, api.ErrNone}} {
		_, e = Simplicial(m, x.a, x.b)
		want(t, "Simplicial", e, x.e)
		_, e = Induced(m, x.a, x.b, -1)
		want(t, "Induced", e, x.e)
	}
	_, e = Induced(m, good, of(s(0), s(1)), -1)
	want(t, "Induced", e, api.ErrMismatch)
	for _, d := range []int{-1, 8, -1 << 63, 1<<63 - 1} {
		_, e = Induced(m, good, good, d)
		want(t, "Induced", e, api.ErrRange)
	}
	var wide api.Complex
	for i := range 2049 {
		wide.Facets = append(wide.Facets, []api.Vertex{v(0, 2*i), v(0, 2*i+1)})
	}
	_, e = Induced(m, good, api.Complex{Facets: append([][]api.Vertex{s(0, 1)}, wide.Facets[1:]...)}, 0)
	want(t, "Induced", e, api.ErrLimit)
}

func TestConsequences(t *testing.T) {
	a := of(s(0, 1, 2), s(2, 3), s(1, 3))
	for code := range 256 {
		m := to(code&3, code>>2&3, code>>4&3, code>>6)
		b, _ := Image(m, a)
		ok, _ := Simplicial(m, a, b)
		want(t, "Simplicial", ok, true)
		n := to(3, 3, 1, code&1)
		c, _ := Image(n, b)
		both, _ := Compose(m, n)
		direct, _ := Image(both, a)
		want(t, "Image", direct, c)
		for d := range 3 {
			x, _ := Induced(m, a, b, d)
			y, _ := Induced(n, b, c, d)
			z, _ := Induced(both, a, c, d)
			product, _ := matrix.Multiply(y, x)
			want(t, "Induced", product, z)
			if d > 0 {
				// The map of chains commutes with boundaries.
				lower, _ := Induced(m, a, b, d-1)
				from, _ := chain.Matrix(a, d)
				into, _ := chain.Matrix(b, d)
				left, _ := matrix.Multiply(lower, from)
				right, _ := matrix.Multiply(into, x)
				want(t, "boundaries", left, right)
			}
		}
	}
}
