package homology

import (
	"fmt"
	"testing"

	"roundtable/api"
	"roundtable/chain"
	"roundtable/complex"
	"roundtable/matrix"
	"roundtable/subdivision"
)

func want(t *testing.T, what string, got, wanted any) {
	t.Helper()
	if fmt.Sprint(got) != fmt.Sprint(wanted) {
		t.Errorf("%s: got %v, want %v", what, got, wanted)
	}
}

type chains = [][]api.Vertex

// s returns the simplex of the vertices with some colors and the label 0.
func s(colors ...int) []api.Vertex {
	var l []api.Vertex
	for _, c := range colors {
		l = append(l, api.Vertex{Color: c})
	}
	return l
}

func of(l ...[]api.Vertex) api.Complex {
	c, _ := complex.Of(l)
	return c
}

func TestExamples(t *testing.T) {
	circle, disk, sphere := of(s(0, 1), s(0, 2), s(1, 2)), of(s(0, 1, 2)), of(s(0, 1, 2), s(0, 1, 3), s(0, 2, 3), s(1, 2, 3))
	for i, x := range []struct {
		c api.Complex
		b []int
	}{{circle, []int{1, 1}}, {disk, []int{1, 0, 0}}, {sphere, []int{1, 0, 1}}, {api.Complex{}, nil}, {of(s(0), s(1), s(2, 3)), []int{3, 0}}} {
		b, e := Betti(x.c)
		want(t, fmt.Sprint("Betti ", i), []any{b, e}, []any{x.b, api.OK})
	}
	a := chains{s(0, 1), s(0, 2), s(1, 2)}
	l, e := Cycles(circle, 1)
	want(t, "Cycles", []any{l, e}, []any{[]chains{a}, api.OK})
	l, _ = Cycles(disk, 1)
	want(t, "Cycles", l, []chains{})
	l, _ = Cycles(of(s(0), s(1, 2), s(3)), 0)
	want(t, "Cycles", l, []chains{{s(0)}, {s(1)}, {s(3)}})
	b, y, ok, e := Bound(circle, a)
	want(t, "Bound", []any{b, ok, e, Refutes(circle, a, y)}, []any{chains{}, false, api.OK, api.OK})
	b, y, ok, e = Bound(disk, a)
	want(t, "Bound", []any{b, y, ok, e, Bounds(disk, a, b)}, []any{chains{s(0, 1, 2)}, chains{}, true, api.OK, api.OK})
	b, y, ok, e = Bound(disk, nil)
	want(t, "Bound", []any{b, y, ok, e}, []any{chains{}, chains{}, true, api.OK})
	for i, edge := range a {
		want(t, "Refutes", Refutes(circle, a, a[i:i+1]), api.OK)
		want(t, "Refutes", Refutes(disk, a, chains{edge}), api.ErrProof)
	}
	for k, x := range []struct {
		c    api.Complex
		upTo int
	}{{sphere, 1}, {circle, 0}, {disk, 7}, {api.Complex{}, -2}, {of(s(0), s(1)), -1}} {
		for d := -1; d <= 7; d++ {
			ok, e := Connected(x.c, d)
			want(t, fmt.Sprint("Connected ", k, " ", d), []any{ok, e}, []any{d <= x.upTo, api.OK})
		}
	}
	for i, x := range []struct {
		c api.Complex
		d int
		l []chains
		b bool
	}{{circle, 1, []chains{a}, true}, {circle, 1, []chains{a, a}, false}, {circle, 1, []chains{nil}, false}, {circle, 1, nil, true}, {disk, 1, []chains{a}, false}, {of(s(0), s(1)), 0, []chains{{s(0)}, {s(0), s(1)}}, true}, {of(s(0, 1)), 0, []chains{{s(0)}, {s(1)}}, false}} {
		ok, e := Independent(x.c, x.d, x.l)
		want(t, fmt.Sprint("Independent ", i), []any{ok, e}, []any{x.b, api.OK})
	}
}

func TestErrors(t *testing.T) {
	c := of(s(0, 1, 2), s(2, 3))
	var wide api.Complex
	for i := range 2049 {
		wide.Facets = append(wide.Facets, []api.Vertex{{Label: 2 * i}, {Label: 2*i + 1}})
	}
	for _, x := range []struct {
		c api.Complex
		e api.Errno
	}{{api.Complex{Facets: chains{nil}}, api.ErrEmpty}, {wide, api.ErrLimit}} {
		_, e := Betti(x.c)
		want(t, "Betti", e, x.e)
		_, e = Cycles(x.c, -1)
		want(t, "Cycles", e, x.e)
		_, e = Independent(x.c, -1, nil)
		want(t, "Independent", e, x.e)
		_, _, _, e = Bound(x.c, chains{s(1, 0)})
		want(t, "Bound", e, x.e)
		want(t, "Bounds", Bounds(x.c, chains{nil}, nil), x.e)
		want(t, "Refutes", Refutes(x.c, chains{nil}, nil), x.e)
		_, e = Connected(x.c, -5)
		want(t, "Connected", e, x.e)
	}
	for _, d := range []int{-2, 8, 1<<63 - 1} {
		_, e := Connected(c, d)
		want(t, "Connected", e, api.ErrRange)
		_, e = Cycles(c, d)
		want(t, "Cycles", e, api.ErrRange)
		_, e = Independent(c, d, make([]chains, 2000))
		want(t, "Independent", e, api.ErrRange)
	}
	_, e := Cycles(c, -1)
	want(t, "Cycles", e, api.ErrRange)
	_, e = Cycles(c, 7)
	want(t, "Cycles", e, api.OK)
	path := chains{s(0, 1), s(1, 2)}
	for i, x := range []struct {
		l []chains
		e api.Errno
	}{{make([]chains, 1025), api.ErrMany}, {[]chains{{s(0, 3)}, {nil}}, api.ErrNone}, {[]chains{{s(1, 0)}}, api.ErrOrder}, {[]chains{{s(0)}}, api.ErrShape}, {[]chains{path, {nil}}, api.ErrForm}} {
		_, e := Independent(c, 1, x.l)
		want(t, fmt.Sprint("Independent ", i), e, x.e)
	}
	_, _, _, e = Bound(c, chains{s(0, 3)})
	want(t, "Bound", e, api.ErrNone)
	_, _, _, e = Bound(c, path)
	want(t, "Bound", e, api.ErrForm)
	for i, x := range []struct {
		a, b chains
		e    api.Errno
	}{{chains{nil}, chains{s(3, 2)}, api.ErrEmpty}, {nil, chains{s(0, 3)}, api.ErrNone}, {path, path, api.ErrShape}, {path, chains{s(0, 1, 2)}, api.ErrProof}, {nil, chains{s(0, 1, 2)}, api.ErrProof}, {nil, nil, api.OK}, {path, nil, api.ErrProof}, {nil, chains{s(0, 1), s(0, 2), s(1, 2)}, api.OK}, {chains{s(0), s(2)}, path, api.OK}} {
		want(t, fmt.Sprint("Bounds ", i), Bounds(c, x.a, x.b), x.e)
	}
	for i, x := range []struct {
		a, y chains
		e    api.Errno
	}{{chains{nil}, nil, api.ErrEmpty}, {nil, chains{s(0, 3)}, api.ErrNone}, {path, chains{s(0)}, api.ErrShape}, {path, nil, api.ErrProof}, {nil, path, api.ErrProof}, {path, path, api.ErrProof}, {chains{s(2, 3)}, chains{s(2, 3)}, api.OK}, {chains{s(0)}, chains{s(0), s(1), s(2), s(3)}, api.OK}, {chains{s(0)}, chains{s(0)}, api.ErrProof}} {
		want(t, fmt.Sprint("Refutes ", i), Refutes(c, x.a, x.y), x.e)
	}
}

func TestHighest(t *testing.T) {
	// The boundary of a simplex with nine vertices.
	var all []api.Vertex
	for k := range 9 {
		all = append(all, api.Vertex{Label: k})
	}
	var c api.Complex
	for k := 8; k >= 0; k-- {
		c.Facets = append(c.Facets, append(append([]api.Vertex{}, all[:k]...), all[k+1:]...))
	}
	b, e := Betti(c)
	want(t, "Betti", []any{b, e}, []any{[]int{1, 0, 0, 0, 0, 0, 0, 1}, api.OK})
	l, _ := Cycles(c, 7)
	want(t, "Cycles", l, []chains{c.Facets})
	_, y, ok, e := Bound(c, l[0])
	want(t, "Bound", []any{ok, e, Refutes(c, l[0], y)}, []any{false, api.OK, api.OK})
	independent, e := Independent(c, 7, l)
	want(t, "Independent", []any{independent, e}, []any{true, api.OK})
}

func TestConsequences(t *testing.T) {
	projective := of(s(0, 1, 4), s(0, 1, 5), s(0, 2, 3), s(0, 2, 5), s(0, 3, 4), s(1, 2, 3), s(1, 2, 4), s(1, 3, 5), s(2, 4, 5), s(3, 4, 5))
	two := of(s(0, 1), s(0, 2), s(1, 2), s(3, 4), s(3, 5), s(4, 5), s(2, 3), s(6), s(5, 6, 7))
	sphere := of(s(0, 1, 2), s(0, 1, 3), s(0, 2, 3), s(1, 2, 3))
	for i, c := range []api.Complex{projective, two, sphere} {
		b, _ := Betti(c)
		want(t, "Betti", b, [][]int{{1, 1, 1}, {1, 2, 0}, {1, 0, 1}}[i])
		euler, _ := complex.Euler(c)
		sum, sign := 0, 1
		for d, number := range b {
			sum += sign * number
			sign = -sign
			l, _ := Cycles(c, d)
			ok, e := Independent(c, d, l)
			want(t, "Cycles", []any{len(l), ok, e}, []any{number, true, api.OK})
			columns, _ := complex.Simplices(c, d+1)
			for k := range columns {
				boundary, _ := chain.Boundary(columns[k : k+1])
				if len(boundary) == 0 {
					continue
				}
				x, y, ok, _ := Bound(c, boundary)
				want(t, "Bound", []any{ok, len(y), Bounds(c, boundary, x)}, []any{true, 0, api.OK})
				more := append(append([]chains{}, l...), nil)
				if d == 1 && len(l) > 0 {
					_, y, ok, _ = Bound(c, l[0])
					want(t, "refutation", []any{ok, Refutes(c, l[0], y)}, []any{false, api.OK})
				}
				ok, _ = Independent(c, d, more)
				want(t, "Independent", ok, false)
				break
			}
		}
		want(t, "Euler", sum, euler)
		d, _ := subdivision.Chromatic(c)
		subdivided, _ := Betti(d.Complex)
		want(t, "subdivision", subdivided, b)
	}
}

// greedy returns the basis by its definition.
func greedy(c api.Complex, d int) []chains {
	m, _ := chain.Matrix(c, d)
	kernel, _ := matrix.Kernel(m)
	var l []chains
	for _, row := range kernel.Rows {
		a, _ := chain.Chain(c, d, row)
		if ok, _ := Independent(c, d, append(l[:len(l):len(l)], a)); ok {
			l = append(l, a)
		}
	}
	return l
}

func TestBasis(t *testing.T) {
	seed := uint32(4)
	for range 80 {
		var f chains
		for range 7 {
			seed = seed*1664525 + 1013904223
			var colors []int
			for c := range 7 {
				if seed>>(9+c)&1 == 1 && len(colors) < 3 {
					colors = append(colors, c)
				}
			}
			if len(colors) > 0 {
				f = append(f, s(colors...))
			}
		}
		c := of(f...)
		for d := range 3 {
			l, _ := Cycles(c, d)
			want(t, "Cycles", l, greedy(c, d))
		}
	}
}
