package sperner

import (
	"fmt"
	"slices"
	"testing"

	"roundtable/api"
	"roundtable/complex"
	"roundtable/subdivision"
)

func want(t *testing.T, what string, got, wanted any) {
	t.Helper()
	if fmt.Sprint(got) != fmt.Sprint(wanted) {
		t.Errorf("%s: got %v, want %v", what, got, wanted)
	}
}

func v(color, label int) api.Vertex { return api.Vertex{Color: color, Label: label} }

// s returns the simplex of the vertices with some colors and the label 0.
func s(colors ...int) []api.Vertex {
	var l []api.Vertex
	for _, c := range colors {
		l = append(l, v(c, 0))
	}
	return l
}

func edge(t *testing.T) (api.Complex, api.Labels) {
	t.Helper()
	d, _ := subdivision.Simplex(s(0, 1))
	l, e := Sperner(d, s(0, 1))
	want(t, "Sperner", e, api.OK)
	return d.Complex, l
}

func single(l api.Labels, labels ...int) api.Labels {
	x := api.Labels{Vertices: l.Vertices}
	for _, label := range labels {
		x.Allowed = append(x.Allowed, 1<<label)
	}
	return x
}

func TestExamples(t *testing.T) {
	c, l := edge(t)
	want(t, "Sperner", l, api.Labels{Vertices: []api.Vertex{v(0, 1), v(0, 3), v(1, 2), v(1, 3)}, Allowed: []int{1, 3, 2, 3}})
	levels, ok, e := Certificate(c, l, 1)
	want(t, "Certificate", []any{levels, ok, e}, []any{[][][]api.Vertex{{{v(0, 1)}}, c.Facets}, true, api.OK})
	want(t, "Verify", Verify(c, l, levels), api.OK)
	r, e := Rainbow(c, single(l, 0, 0, 1, 1))
	want(t, "Rainbow", []any{r, e}, []any{c.Facets, api.OK})
	r, _ = Rainbow(c, single(l, 0, 0, 1, 0))
	want(t, "Rainbow", r, [][]api.Vertex{{v(0, 3), v(1, 2)}})
	ok, e = Suits(l, single(l, 0, 1, 1, 0))
	want(t, "Suits", []any{ok, e}, []any{true, api.OK})
	ok, _ = Suits(l, single(l, 1, 1, 1, 0))
	want(t, "Suits", ok, false)
	ok, _ = Suits(l, api.Labels{Vertices: l.Vertices[:1], Allowed: []int{1}})
	want(t, "Suits", ok, false)
	more := l
	more.Allowed = []int{1, 3, 2, 7}
	levels, ok, e = Certificate(c, more, 1)
	want(t, "Certificate", []any{levels, ok, e}, []any{[][][]api.Vertex{}, false, api.OK})
	levels, ok, _ = Certificate(c, l, 0)
	want(t, "Certificate", []any{levels, ok}, []any{[][][]api.Vertex{{{v(0, 1)}}}, true})
}

func TestErrors(t *testing.T) {
	c, good := edge(t)
	bad := api.Complex{Facets: [][]api.Vertex{nil}}
	var wide api.Complex
	for i := range 2049 {
		wide.Facets = append(wide.Facets, []api.Vertex{v(0, 2*i), v(0, 2*i+1)})
	}
	short := api.Labels{Vertices: good.Vertices[1:], Allowed: good.Allowed[1:]}
	for i, x := range []struct {
		l api.Labels
		e api.Errno
	}{
		{api.Labels{Vertices: make([]api.Vertex, 4097)}, api.ErrMany}, {api.Labels{Vertices: s(0)}, api.ErrShape}, {api.Labels{Vertices: []api.Vertex{v(9, 0)}, Allowed: []int{0}}, api.ErrRange}, {api.Labels{Vertices: s(1, 0), Allowed: []int{1, 0}}, api.ErrOrder},
		{api.Labels{Vertices: s(0), Allowed: []int{0}}, api.ErrRange}, {api.Labels{Vertices: s(0), Allowed: []int{256}}, api.ErrRange}, {api.Labels{Vertices: s(0), Allowed: []int{-1}}, api.ErrRange},
	} {
		want(t, fmt.Sprint("Check ", i), Check(x.l), x.e)
		_, e := Rainbow(c, x.l)
		want(t, "Rainbow", e, x.e)
		_, e = Suits(x.l, good)
		want(t, "Suits", e, x.e)
		_, e = Suits(good, x.l)
		want(t, "Suits", e, x.e)
		_, _, e = Certificate(c, x.l, -1)
		want(t, "Certificate", e, x.e)
		want(t, "Verify", Verify(c, x.l, nil), x.e)
		_, e = Rainbow(bad, x.l)
		want(t, "Rainbow", e, api.ErrEmpty)
		_, _, e = Certificate(wide, x.l, -1)
		want(t, "Certificate", e, api.ErrLimit)
		want(t, "Verify", Verify(wide, x.l, nil), api.ErrLimit)
	}
	_, e := Rainbow(c, short)
	want(t, "Rainbow", e, api.ErrNone)
	_, e = Rainbow(c, good)
	want(t, "Rainbow", e, api.ErrForm)
	_, e = Suits(good, good)
	want(t, "Suits", e, api.ErrForm)
	_, _, e = Certificate(c, short, -1)
	want(t, "Certificate", e, api.ErrNone)
	for _, d := range []int{-1, 8, 1<<63 - 1} {
		_, _, e = Certificate(c, good, d)
		want(t, "Certificate", e, api.ErrRange)
	}
	d, _ := subdivision.Simplex(s(0, 1))
	_, e = Sperner(d, nil)
	want(t, "Sperner", e, api.ErrEmpty)
	_, e = Sperner(d, s(0, 2))
	want(t, "Sperner", e, api.ErrNone)
	// 2000 vertices and 2087 edges, all of which are unknowns, and then more.
	var graph api.Complex
	var l api.Labels
	for i := range 2000 {
		l.Vertices, l.Allowed = append(l.Vertices, v(0, i)), append(l.Allowed, 1)
		if i > 0 {
			graph.Facets = append(graph.Facets, []api.Vertex{v(0, i-1), v(0, i)})
		}
		if i > 1 && i < 90 {
			graph.Facets = append(graph.Facets, []api.Vertex{v(0, i-2), v(0, i)})
		}
	}
	graph, _ = complex.Of(graph.Facets)
	_, _, e = Certificate(graph, l, 1)
	want(t, "Certificate", e, api.OK)
	for i := 400; i < 600; i++ {
		graph.Facets = append(graph.Facets, []api.Vertex{v(0, i-2), v(0, i)})
	}
	graph, _ = complex.Of(graph.Facets)
	_, _, e = Certificate(graph, l, 1)
	want(t, "Certificate", e, api.ErrLimit)
}

func TestVerify(t *testing.T) {
	c, l := edge(t)
	a, b, x := c.Facets[0], c.Facets[1], c.Facets[2]
	for i, y := range []struct {
		levels [][][]api.Vertex
		e      api.Errno
	}{
		{nil, api.ErrShape}, {make([][][]api.Vertex, 9), api.ErrShape}, {[][][]api.Vertex{{nil}}, api.ErrEmpty}, {[][][]api.Vertex{{{v(0, 1), v(0, 0)}}}, api.ErrOrder}, {[][][]api.Vertex{{a}}, api.ErrShape}, {[][][]api.Vertex{{{v(0, 7)}}}, api.ErrNone},
		{[][][]api.Vertex{{{v(0, 3)}, {v(0, 1)}}}, api.ErrOrder}, {[][][]api.Vertex{{{v(0, 1)}}, {b, a}}, api.ErrOrder}, {[][][]api.Vertex{{}}, api.ErrProof}, {[][][]api.Vertex{{{v(0, 1)}}}, api.OK}, {[][][]api.Vertex{{{v(1, 2)}}}, api.ErrProof}, {[][][]api.Vertex{{{v(0, 3)}}}, api.ErrProof},
		{[][][]api.Vertex{{{v(0, 1)}}, {a, b}}, api.ErrProof}, {[][][]api.Vertex{{{v(0, 1)}}, {a, b, x}}, api.OK}, {[][][]api.Vertex{{{v(0, 1)}}, {}}, api.ErrProof}, {[][][]api.Vertex{{{v(0, 1)}}, {a, b, x}, {}}, api.ErrProof},
	} {
		want(t, fmt.Sprint("Verify ", i), Verify(c, l, y.levels), y.e)
	}
}

func TestConsequences(t *testing.T) {
	for _, x := range []struct{ n, k int }{{2, 1}, {2, 3}, {3, 1}, {3, 2}} {
		base := s(0, 1, 2)[:x.n]
		d, _ := subdivision.Iterate(api.Complex{Facets: [][]api.Vertex{base}}, x.k)
		l, e := Sperner(d, base)
		want(t, "Sperner", e, api.OK)
		levels, ok, e := Certificate(d.Complex, l, x.n-1)
		want(t, "Certificate", []any{ok, e}, []any{true, api.OK})
		want(t, "Verify", []any{Verify(d.Complex, l, levels), levels[x.n-1]}, []any{api.OK, d.Complex.Facets})
		seed := uint32(x.k)
		for range 200 {
			labeling := api.Labels{Vertices: l.Vertices}
			for _, mask := range l.Allowed {
				seed = seed*1664525 + 1013904223
				label := int(seed >> 20 % 8)
				for mask>>label&1 == 0 {
					label = (label + 1) % 8
				}
				labeling.Allowed = append(labeling.Allowed, 1<<label)
			}
			ok, _ := Suits(l, labeling)
			r, e := Rainbow(d.Complex, labeling)
			want(t, "rainbow facets", []any{ok, len(r) % 2, e}, []any{true, 1, api.OK})
			want(t, "order", slices.IsSortedFunc(r, func(a, b []api.Vertex) int {
				return slices.CompareFunc(a, b, func(a, b api.Vertex) int { return (a.Color-b.Color)<<21 + a.Label - b.Label })
			}), true)
		}
	}
}
