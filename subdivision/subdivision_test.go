package subdivision

import (
	"fmt"
	"slices"
	"testing"

	"roundtable/api"
	"roundtable/complex"
)

func want(t *testing.T, what string, got, wanted any) {
	t.Helper()
	if fmt.Sprint(got) != fmt.Sprint(wanted) {
		t.Errorf("%s: got %v, want %v", what, got, wanted)
	}
}

func v(color, label int) api.Vertex { return api.Vertex{Color: color, Label: label} }

// s returns the simplex of the vertices with some colors and the label 0.
func s(colors ...int) []api.Vertex {
	var l []api.Vertex
	for _, c := range colors {
		l = append(l, v(c, 0))
	}
	return l
}

func of(l ...[]api.Vertex) api.Complex {
	c, _ := complex.Of(l)
	return c
}

func TestExamples(t *testing.T) {
	edge := []api.Vertex{v(0, 5), v(1, 0)}
	l, e := Partitions(2)
	want(t, "Partitions", []any{l, e}, []any{[][]int{{1, 2}, {2, 1}, {3}}, api.OK})
	f, e := Facet(edge, []int{2, 1})
	want(t, "Facet", []any{f, e}, []any{[]api.Vertex{v(0, 3), v(1, 2)}, api.OK})
	d, e := Simplex(edge)
	want(t, "Simplex", []any{d.Complex.Facets, d.Vertices, d.Carriers, e}, []any{[][]api.Vertex{{v(0, 1), v(1, 3)}, {v(0, 3), v(1, 2)}, {v(0, 3), v(1, 3)}},
		[]api.Vertex{v(0, 1), v(0, 3), v(1, 2), v(1, 3)}, [][]api.Vertex{edge[:1], edge, edge[1:], edge}, api.OK})
	d, e = Barycentric(of(edge))
	want(t, "Barycentric", []any{d.Complex.Facets, d.Carriers, e}, []any{[][]api.Vertex{{v(0, 0), v(1, 2)}, {v(0, 1), v(1, 2)}}, [][]api.Vertex{edge[:1], edge[1:], edge}, api.OK})
	d, e = Chromatic(of(edge, []api.Vertex{v(1, 0), v(2, 0)}))
	want(t, "Chromatic", []any{d.Complex.Facets, e}, []any{[][]api.Vertex{{v(0, 0), v(1, 2)}, {v(0, 2), v(1, 1)}, {v(0, 2), v(1, 2)}, {v(1, 1), v(2, 4)}, {v(1, 4), v(2, 3)}, {v(1, 4), v(2, 4)}}, api.OK})
	for n, size := range []int{0, 1, 3, 13, 75, 541} {
		if n > 0 {
			l, _ = Partitions(n)
			want(t, "Partitions", []any{len(l), slices.IsSortedFunc(l, slices.Compare[[]int])}, []any{size, true})
		}
	}
	d, e = Iterate(of(edge), 0)
	want(t, "Iterate", []any{d, e}, []any{api.Subdivision{Complex: of(edge), Vertices: edge, Carriers: [][]api.Vertex{edge[:1], edge[1:]}}, api.OK})
	d, _ = Iterate(of(edge), 2)
	want(t, "Iterate", []any{len(d.Complex.Facets), Check(of(edge), d)}, []any{9, api.OK})
	c, e := Carrier(of(edge), d, d.Complex.Facets[0])
	want(t, "Carrier", []any{c, e}, []any{edge, api.OK})
	d, e = Chromatic(api.Complex{})
	want(t, "empty", []any{d, e}, []any{api.Subdivision{}, api.OK})
}

func TestErrors(t *testing.T) {
	for _, n := range []int{0, 6} {
		_, e := Partitions(n)
		want(t, "Partitions", e, api.ErrRange)
	}
	twice := []api.Vertex{v(0, 0), v(0, 1)}
	for i, x := range []struct {
		s      []api.Vertex
		blocks []int
		e      api.Errno
	}{
		{nil, nil, api.ErrEmpty}, {s(1, 0), nil, api.ErrOrder}, {twice, nil, api.ErrForm}, {s(0, 1), nil, api.ErrShape}, {s(0, 1), []int{1}, api.ErrShape}, {s(0, 1), []int{1, 3}, api.ErrShape}, {s(0, 1), []int{0, 3}, api.ErrShape}, {s(0, 1), []int{1, 2, 4}, api.ErrShape},
		{s(0, 1), []int{-1}, api.ErrShape}, {s(0, 1), []int{7}, api.ErrShape}, {s(0, 1, 2, 3, 4, 5, 6, 7), []int{255}, api.OK},
	} {
		_, e := Facet(x.s, x.blocks)
		want(t, fmt.Sprint("Facet ", i), e, x.e)
	}
	for i, x := range []struct {
		s []api.Vertex
		e api.Errno
	}{{nil, api.ErrEmpty}, {twice, api.ErrForm}, {s(0, 1, 2, 3, 4, 5), api.ErrMany}, {s(0, 1, 2, 3, 4), api.OK}} {
		_, e := Simplex(x.s)
		want(t, fmt.Sprint("Simplex ", i), e, x.e)
	}
	var many api.Complex
	for i := range 1366 {
		many.Facets = append(many.Facets, []api.Vertex{v(0, i), v(1, i)})
	}
	for i, x := range []struct {
		c    api.Complex
		e, b api.Errno
	}{
		{api.Complex{Facets: [][]api.Vertex{nil}}, api.ErrEmpty, api.ErrEmpty}, {of(twice, s(1, 2, 3, 4, 5, 6)), api.ErrForm, api.OK}, {of(s(0, 1, 2, 3, 4, 5)), api.ErrMany, api.OK}, {of(s(0, 1, 2, 3, 4, 5, 6)), api.ErrMany, api.ErrMany}, {many, api.ErrMany, api.OK},
	} {
		_, e := Chromatic(x.c)
		want(t, fmt.Sprint("Chromatic ", i), e, x.e)
		_, e = Iterate(x.c, 1)
		want(t, fmt.Sprint("Iterate ", i), e, x.e)
		_, e = Barycentric(x.c)
		want(t, fmt.Sprint("Barycentric ", i), e, x.b)
	}
	for _, k := range []int{-1, 7} {
		_, e := Iterate(of(twice), k)
		want(t, "Iterate", e, api.ErrRange)
	}
	_, e := Iterate(of(twice), 0)
	want(t, "Iterate", e, api.OK)
	_, e = Iterate(of(s(0, 1, 2)), 4)
	want(t, "Iterate", e, api.ErrMany)
}

func TestCheck(t *testing.T) {
	c := of(s(0, 1), s(2, 3))
	base, _ := Chromatic(c)
	for i, x := range []struct {
		change func(d *api.Subdivision)
		e      api.Errno
	}{
		{func(d *api.Subdivision) {}, api.OK}, {func(d *api.Subdivision) { d.Complex.Facets[0] = nil }, api.ErrEmpty}, {func(d *api.Subdivision) { d.Vertices = d.Vertices[1:] }, api.ErrShape}, {func(d *api.Subdivision) { d.Carriers = d.Carriers[1:] }, api.ErrShape}, {func(d *api.Subdivision) { d.Vertices[0].Label = 9; d.Carriers[0] = nil }, api.ErrShape},
		{func(d *api.Subdivision) { d.Carriers[0] = nil }, api.ErrEmpty}, {func(d *api.Subdivision) { d.Carriers[0] = s(1, 2) }, api.ErrNone}, {func(d *api.Subdivision) { d.Carriers[0] = s(2) }, api.ErrMismatch}, {func(d *api.Subdivision) { d.Carriers[0] = s(1, 2); d.Carriers[1] = nil }, api.ErrNone},
	} {
		d := api.Subdivision{Vertices: slices.Clone(base.Vertices)}
		for _, f := range base.Complex.Facets {
			d.Complex.Facets = append(d.Complex.Facets, slices.Clone(f))
		}
		for _, f := range base.Carriers {
			d.Carriers = append(d.Carriers, slices.Clone(f))
		}
		x.change(&d)
		want(t, fmt.Sprint("Check ", i), Check(c, d), x.e)
		_, e := Carrier(c, d, base.Vertices[:1])
		want(t, fmt.Sprint("Carrier ", i), e, x.e)
	}
	want(t, "Check", Check(api.Complex{Facets: [][]api.Vertex{nil}}, base), api.ErrEmpty)
	_, e := Carrier(c, base, nil)
	want(t, "Carrier", e, api.ErrEmpty)
	_, e = Carrier(c, base, []api.Vertex{base.Vertices[0], v(7, 7)})
	want(t, "Carrier", e, api.ErrNone)
}

func TestConsequences(t *testing.T) {
	for n := 1; n <= 4; n++ {
		simplex := s(0, 1, 2, 3)[:n]
		d, _ := Simplex(simplex)
		want(t, "Check", Check(of(simplex), d), api.OK)
		euler, _ := complex.Euler(d.Complex)
		want(t, "Euler", euler, 1)
		for _, f := range d.Complex.Facets {
			for i, x := range f {
				for k, y := range f {
					immediate := x.Label>>k&1 == 0 || y.Label&^x.Label == 0
					comparable := x.Label&^y.Label == 0 || y.Label&^x.Label == 0
					want(t, "snapshots", []bool{x.Label>>i&1 == 1, comparable, immediate}, []bool{true, true, true})
				}
			}
		}
		if n == 1 {
			continue
		}
		b, e := complex.Boundary(d.Complex)
		want(t, "Boundary", e, api.OK)
		for _, f := range b.Facets {
			c, _ := Carrier(of(simplex), d, f)
			want(t, "carrier of the boundary", len(c) < n, true)
		}
	}
	c := of(s(0, 1, 2), s(2, 3), s(4))
	for _, make := range []func(api.Complex) (api.Subdivision, api.Errno){Chromatic, Barycentric, func(c api.Complex) (api.Subdivision, api.Errno) { return Iterate(c, 2) }} {
		d, e := make(c)
		want(t, "Check", []any{Check(c, d), e}, []any{api.OK, api.OK})
		x, _ := complex.Euler(c)
		y, _ := complex.Euler(d.Complex)
		m, _ := complex.Components(d.Complex)
		dim, _, _ := complex.Dimension(d.Complex)
		want(t, "subdivision", []int{y, slices.Max(m), dim}, []int{x, 1, 2})
	}
}
