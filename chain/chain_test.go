package chain

import (
	"fmt"
	"testing"

	"roundtable/api"
	"roundtable/complex"
	"roundtable/matrix"
	"roundtable/simplex"
)

func want(t *testing.T, what string, got, wanted any) {
	t.Helper()
	if fmt.Sprint(got) != fmt.Sprint(wanted) {
		t.Errorf("%s: got %v, want %v", what, got, wanted)
	}
}

type chain = [][]api.Vertex

// s returns the simplex of the vertices with some colors and the label 0.
func s(colors ...int) []api.Vertex {
	var l []api.Vertex
	for _, c := range colors {
		l = append(l, api.Vertex{Color: c})
	}
	return l
}

func of(l ...[]api.Vertex) api.Complex {
	c, _ := complex.Of(l)
	return c
}

func TestExamples(t *testing.T) {
	c := of(s(0, 1, 2), s(2, 3))
	a, e := Boundary(chain{s(0, 1, 2)})
	want(t, "Boundary", []any{a, e}, []any{chain{s(0, 1), s(0, 2), s(1, 2)}, api.OK})
	ok, e := Cycle(a)
	want(t, "Cycle", []any{ok, e}, []any{true, api.OK})
	a, _ = Boundary(chain{s(0, 1), s(1, 2)})
	want(t, "Boundary", a, chain{s(0), s(2)})
	ok, _ = Cycle(chain{s(0, 1), s(1, 2)})
	want(t, "Cycle", ok, false)
	a, e = Sum(chain{s(0, 1), s(1, 2)}, chain{s(1, 2), s(2, 3)})
	want(t, "Sum", []any{a, e}, []any{chain{s(0, 1), s(2, 3)}, api.OK})
	a, _ = Boundary(chain{s(0), s(2)})
	want(t, "Boundary", a, chain{})
	ok, _ = Cycle(nil)
	want(t, "Cycle", ok, true)
	m, e := Matrix(c, 1)
	want(t, "Matrix", []any{m, e}, []any{api.Matrix{Cols: 4, Rows: [][]int{{0, 1}, {0, 2}, {1, 2, 3}, {3}}}, api.OK})
	m, _ = Matrix(c, 2)
	want(t, "Matrix", m, api.Matrix{Cols: 1, Rows: [][]int{{0}, {0}, {0}, {}}})
	m, _ = Matrix(c, 0)
	want(t, "Matrix", m, api.Matrix{Cols: 4})
	m, _ = Matrix(c, 7)
	want(t, "Matrix", m, api.Matrix{})
	v, e := Vector(c, chain{s(0, 1), s(2, 3)})
	want(t, "Vector", []any{v, e}, []any{[]int{0, 3}, api.OK})
	a, e = Chain(c, 1, []int{0, 3})
	want(t, "Chain", []any{a, e}, []any{chain{s(0, 1), s(2, 3)}, api.OK})
	v, e = Vector(c, nil)
	want(t, "Vector", []any{v, e}, []any{[]int{}, api.OK})
}

func dots(n, from int) chain {
	var a chain
	for i := range n {
		a = append(a, []api.Vertex{{Label: from + i}})
	}
	return a
}

func TestErrors(t *testing.T) {
	c := of(s(0, 1, 2), s(2, 3))
	bad := api.Complex{Facets: chain{nil}}
	for i, x := range []struct {
		a chain
		e api.Errno
	}{{make(chain, 4097), api.ErrMany}, {chain{nil}, api.ErrEmpty}, {chain{s(0, 1), s(2), nil}, api.ErrShape}, {chain{s(0), s(0, 1)}, api.ErrShape}, {chain{s(1), s(0), nil}, api.ErrOrder}, {chain{s(1), s(1)}, api.ErrOrder}, {chain{s(9)}, api.ErrRange}} {
		want(t, fmt.Sprint("Check ", i), Check(x.a), x.e)
		_, e := Sum(x.a, nil)
		want(t, "Sum", e, x.e)
		_, e = Sum(nil, x.a)
		want(t, "Sum", e, x.e)
		_, e = Boundary(x.a)
		want(t, "Boundary", e, x.e)
		_, e = Cycle(x.a)
		want(t, "Cycle", e, x.e)
		_, e = Vector(c, x.a)
		want(t, "Vector", e, x.e)
		_, e = Vector(bad, x.a)
		want(t, "Vector", e, api.ErrEmpty)
	}
	_, e := Sum(chain{s(0)}, chain{s(0, 1)})
	want(t, "Sum", e, api.ErrShape)
	_, e = Sum(dots(4096, 0), dots(1, 5000))
	want(t, "Sum", e, api.ErrMany)
	var edges chain
	for i := range 2049 {
		edges = append(edges, []api.Vertex{{Label: 2 * i}, {Label: 2*i + 1}})
	}
	_, e = Boundary(edges)
	want(t, "Boundary", e, api.ErrMany)
	ok, e := Cycle(edges)
	want(t, "Cycle", []any{ok, e}, []any{false, api.OK})
	for _, d := range []int{-1, 8, -1 << 63, 1<<63 - 1} {
		_, e = Matrix(c, d)
		want(t, "Matrix", e, api.ErrRange)
		_, e = Chain(c, d, []int{-1})
		want(t, "Chain", e, api.ErrRange)
	}
	_, e = Matrix(bad, -1)
	want(t, "Matrix", e, api.ErrEmpty)
	_, e = Chain(bad, -1, nil)
	want(t, "Chain", e, api.ErrEmpty)
	_, e = Vector(c, chain{s(1, 3)})
	want(t, "Vector", e, api.ErrNone)
	for _, x := range []struct {
		v []int
		e api.Errno
	}{{[]int{4}, api.ErrRange}, {[]int{-1}, api.ErrRange}, {[]int{1, 1, 9}, api.ErrOrder}, {[]int{2, 9, 1}, api.ErrRange}, {nil, api.OK}} {
		_, e = Chain(c, 1, x.v)
		want(t, "Chain", e, x.e)
	}
	var wide api.Complex
	for i := range 2049 {
		wide.Facets = append(wide.Facets, []api.Vertex{{Label: 2 * i}, {Label: 2*i + 1}})
	}
	_, e = Matrix(wide, 0)
	want(t, "Matrix", e, api.ErrLimit)
	_, e = Matrix(wide, 1)
	want(t, "Matrix", e, api.ErrLimit)
	_, e = Chain(wide, 0, []int{-1})
	want(t, "Chain", e, api.ErrLimit)
	_, e = Vector(wide, chain{s(7)})
	want(t, "Vector", e, api.ErrLimit)
}

func TestConsequences(t *testing.T) {
	c := of(s(0, 1, 2, 3), s(2, 3, 4, 5))
	for d := range 4 {
		l, _ := complex.Simplices(c, d+1)
		m, _ := Matrix(c, d)
		if d > 0 {
			lower, _ := Matrix(c, d-1)
			product, e := matrix.Multiply(lower, m)
			rank, _ := matrix.Rank(product)
			want(t, "product", []any{rank, e}, []any{0, api.OK})
		}
		for bits := 0; bits < 1<<len(l); bits += 1 + len(l)*3 {
			var v []int
			for i := range l {
				if bits>>i&1 == 1 {
					v = append(v, i)
				}
			}
			a, _ := Chain(c, d, v)
			back, _ := Vector(c, a)
			want(t, "Vector", back, v)
			b, _ := Boundary(a)
			cycle, _ := Cycle(b)
			want(t, "Cycle", cycle, true)
			if d > 0 {
				image, _ := matrix.Apply(m, v)
				w, _ := Vector(c, b)
				want(t, "boundary matrix", image, w)
			}
			x := l[:len(l)/2]
			sum, _ := Sum(a, x)
			left, _ := Boundary(sum)
			bx, _ := Boundary(x)
			right, _ := Sum(b, bx)
			want(t, "boundary of a sum", left, right)
			nothing, _ := Sum(a, a)
			want(t, "Sum", nothing, chain{})
		}
	}
	a := chain{s(0, 1)}
	b, _ := Sum(a, nil)
	b[0][0].Label = 9
	want(t, "memory", simplex.Check(a[0]), api.OK)
	want(t, "memory", a, chain{s(0, 1)})
}
