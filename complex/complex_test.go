package complex

import (
	"fmt"
	"slices"
	"testing"

	"roundtable/api"
	"roundtable/simplex"
)

func want(t *testing.T, what string, got, wanted any) {
	t.Helper()
	if fmt.Sprint(got) != fmt.Sprint(wanted) {
		t.Errorf("%s: got %v, want %v", what, got, wanted)
	}
}

// s returns the simplex of the vertices with some colors and the label 0.
func s(colors ...int) []api.Vertex {
	var l []api.Vertex
	for _, c := range colors {
		l = append(l, api.Vertex{Color: c})
	}
	return l
}

func of1(l ...[]api.Vertex) api.Complex {
	c, _ := Of(l)
	return c
}

// dots returns a complex of some single vertices.
func dots(n, from int) api.Complex {
	var c api.Complex
	for i := range n {
		c.Facets = append(c.Facets, []api.Vertex{{Label: from + i}})
	}
	return c
}

func TestExamples(t *testing.T) {
	c1 := api.Complex{Facets: [][]api.Vertex{s(0, 1, 2), s(2, 3)}}
	c, e := Of([][]api.Vertex{s(2, 3), s(1), s(0, 1, 2), s(2, 3)})
	want(t, "Of", []any{c, e}, []any{c1, api.OK})
	v, _ := Vertices(c1)
	want(t, "Vertices", v, s(0, 1, 2, 3))
	l, _ := Simplices(c1, 2)
	want(t, "Simplices", l, [][]api.Vertex{s(0, 1), s(0, 2), s(1, 2), s(2, 3)})
	d, pure, e := Dimension(c1)
	want(t, "Dimension", []any{d, pure, e}, []any{2, false, api.OK})
	n, _ := Euler(c1)
	want(t, "Euler", n, 1)
	c, _ = Star(c1, s(2))
	want(t, "Star", c, c1)
	c, _ = Link(c1, s(2))
	want(t, "Link", c, of1(s(0, 1), s(3)))
	c, _ = Link(c1, s(0))
	want(t, "Link", c, of1(s(1, 2)))
	c, _ = Link(c1, s(3))
	want(t, "Link", c, of1(s(2)))
	c, e = Link(c1, s(2, 3))
	want(t, "Link", []any{c, e}, []any{api.Complex{}, api.OK})
	c, _ = Boundary(of1(s(0, 1, 2), s(1, 2, 3)))
	want(t, "Boundary", c, of1(s(0, 1), s(0, 2), s(1, 3), s(2, 3)))
	_, e = Boundary(c1)
	want(t, "Boundary", e, api.ErrShape)
	c, e = Boundary(of1(s(0, 1), s(0, 2), s(1, 2)))
	want(t, "Boundary", []any{c, e}, []any{api.Complex{}, api.OK})
	for _, x := range []api.Complex{{}, of1(s(0), s(1)), of1(s(0, 1), s(0, 2), s(0, 3))} {
		_, e = Boundary(x)
		want(t, "Boundary", e, api.ErrShape)
	}
	c, _ = Skeleton(c1, 2)
	want(t, "Skeleton", c, of1(s(0, 1), s(0, 2), s(1, 2), s(2, 3)))
	c, _ = Skeleton(c1, 3)
	want(t, "Skeleton", c, c1)
	c, _ = Skeleton(c1, 8)
	want(t, "Skeleton", c, c1)
	c, e = Skeleton(c1, 0)
	want(t, "Skeleton", []any{c, e}, []any{api.Complex{}, api.OK})
	c, _ = Join(of1(s(0), s(1)), of1(s(2), s(3)))
	want(t, "Join", c, of1(s(0, 2), s(0, 3), s(1, 2), s(1, 3)))
	c, _ = Join(c1, api.Complex{})
	want(t, "Join", c, c1)
	c, _ = Join(api.Complex{}, c1)
	want(t, "Join", c, c1)
	c, _ = Union(of1(s(0, 1), s(2)), of1(s(1, 2)))
	want(t, "Union", c, of1(s(0, 1), s(1, 2)))
	c, _ = Meet(c1, of1(s(0, 2, 3), s(1)))
	want(t, "Meet", c, of1(s(0, 2), s(1), s(2, 3)))
	c, _ = Restrict(c1, 0b1101)
	want(t, "Restrict", c, of1(s(0, 2), s(2, 3)))
	k, _ := Components(of1(s(0), s(1, 2), s(2, 3), s(4, 5), s(3, 6)))
	want(t, "Components", k, []int{0, 1, 1, 1, 2})
	d, pure, _ = Dimension(api.Complex{})
	n, _ = Euler(api.Complex{})
	want(t, "empty", []any{d, pure, n}, []any{-1, true, 0})
	ok, _ := Contains(c1, s(0, 2))
	other, _ := Contains(c1, s(1, 3))
	want(t, "Contains", []bool{ok, other}, []bool{true, false})
}

func TestErrors(t *testing.T) {
	good := of1(s(0, 1, 2), s(2, 3))
	for i, x := range []struct {
		c api.Complex
		e api.Errno
	}{
		{api.Complex{Facets: make([][]api.Vertex, 4097)}, api.ErrMany}, {api.Complex{Facets: [][]api.Vertex{s(1), nil, s(0)}}, api.ErrEmpty}, {api.Complex{Facets: [][]api.Vertex{s(1), s(0), nil}}, api.ErrOrder}, {api.Complex{Facets: [][]api.Vertex{s(1), s(1)}}, api.ErrOrder},
		{api.Complex{Facets: [][]api.Vertex{s(0, 1), s(1)}}, api.ErrTwice}, {api.Complex{Facets: [][]api.Vertex{s(0), s(0, 1), s(9)}}, api.ErrRange},
	} {
		want(t, fmt.Sprint("Check ", i), Check(x.c), x.e)
		_, e := Contains(x.c, nil)
		want(t, "Contains", e, x.e)
		_, e = Vertices(x.c)
		want(t, "Vertices", e, x.e)
		_, e = Simplices(x.c, 0)
		want(t, "Simplices", e, x.e)
		_, _, e = Dimension(x.c)
		want(t, "Dimension", e, x.e)
		_, e = Skeleton(x.c, 99)
		want(t, "Skeleton", e, x.e)
		_, e = Star(x.c, nil)
		want(t, "Star", e, x.e)
		_, e = Link(x.c, nil)
		want(t, "Link", e, x.e)
		for _, pair := range [][2]api.Complex{{x.c, good}, {good, x.c}} {
			_, e = Join(pair[0], pair[1])
			want(t, "Join", e, x.e)
			_, e = Union(pair[0], pair[1])
			want(t, "Union", e, x.e)
			_, e = Meet(pair[0], pair[1])
			want(t, "Meet", e, x.e)
		}
		_, e = Restrict(x.c, 1)
		want(t, "Restrict", e, x.e)
		_, e = Boundary(x.c)
		want(t, "Boundary", e, x.e)
		_, e = Euler(x.c)
		want(t, "Euler", e, x.e)
		_, e = Components(x.c)
		want(t, "Components", e, x.e)
	}
	_, e := Of(make([][]api.Vertex, 4097))
	want(t, "Of", e, api.ErrMany)
	_, e = Of([][]api.Vertex{s(0), s(1, 0), nil})
	want(t, "Of", e, api.ErrOrder)
	for _, x := range []struct {
		s []api.Vertex
		e api.Errno
	}{{nil, api.ErrEmpty}, {s(1, 3), api.ErrNone}, {s(4), api.ErrNone}} {
		_, e = Star(good, x.s)
		want(t, "Star", e, x.e)
		_, e = Link(good, x.s)
		want(t, "Link", e, x.e)
	}
	for _, k := range []int{-1, 9} {
		_, e = Simplices(good, k)
		want(t, "Simplices", e, api.ErrRange)
		_, e = Skeleton(good, k)
		want(t, "Skeleton", e, api.ErrRange)
	}
	_, e = Simplices(good, 0)
	want(t, "Simplices", e, api.ErrRange)
	_, e = Join(good, of1(s(3, 4)))
	want(t, "Join", e, api.ErrTwice)
	_, e = Join(of1(s(0, 1, 2, 3, 4)), of1(s(5, 6, 7), []api.Vertex{{Color: 5, Label: 1}, {Color: 5, Label: 2}, {Color: 5, Label: 3}, {Color: 5, Label: 4}}))
	want(t, "Join", e, api.ErrMany)
	_, e = Join(dots(65, 0), dots(64, 100))
	want(t, "Join", e, api.ErrMany)
	_, e = Union(dots(4096, 0), dots(1, 5000))
	want(t, "Union", e, api.ErrMany)
	_, e = Union(dots(4096, 0), dots(1, 7))
	want(t, "Union", e, api.OK)
	_, e = Meet(dots(257, 0), dots(256, 0))
	want(t, "Meet", e, api.ErrLimit)
	c, e := Meet(dots(256, 0), dots(256, 250))
	want(t, "Meet", []any{len(c.Facets), e}, []any{6, api.OK})
}

func TestLimits(t *testing.T) {
	// 600 disjoint facets with 8 vertices have 4800 vertices.
	var c api.Complex
	for i := range 600 {
		var f []api.Vertex
		for k := range 8 {
			f = append(f, api.Vertex{Color: 0, Label: i*8 + k})
		}
		c.Facets = append(c.Facets, f)
	}
	want(t, "Check", Check(c), api.OK)
	v, e := Vertices(c)
	want(t, "Vertices", []any{len(v), e}, []any{4800, api.OK})
	_, e = Simplices(c, 1)
	want(t, "Simplices", e, api.ErrLimit)
	_, e = Euler(c)
	want(t, "Euler", e, api.ErrLimit)
	_, e = Skeleton(c, 1)
	want(t, "Skeleton", e, api.ErrLimit)
	l, e := Simplices(c, 8)
	want(t, "Simplices", []any{len(l), e}, []any{600, api.OK})
	_, e = Boundary(c)
	want(t, "Boundary", e, api.ErrMany)
	// Many edges, and many more single vertices.
	mixed := dots(3000, 0)
	for i := range 1000 {
		mixed.Facets = append(mixed.Facets, []api.Vertex{{Color: 1, Label: i * 2}, {Color: 1, Label: i*2 + 1}})
	}
	_, e = Skeleton(mixed, 1)
	want(t, "Skeleton", e, api.ErrLimit)
	big := dots(3000, 0)
	for i := range 500 {
		big.Facets = append(big.Facets, []api.Vertex{{Color: 1, Label: i * 3}, {Color: 1, Label: i*3 + 1}, {Color: 1, Label: i*3 + 2}})
	}
	_, e = Skeleton(big, 2)
	want(t, "Skeleton", e, api.ErrMany)
}

// sample returns some complexes that depend on a seed.
func sample(seed uint32) api.Complex {
	var l [][]api.Vertex
	for range 5 {
		seed = seed*1664525 + 1013904223
		var f []int
		for c := range 6 {
			if seed>>(8+c)&1 == 1 && len(f) < 4 {
				f = append(f, c)
			}
		}
		if len(f) > 0 {
			l = append(l, s(f...))
		}
	}
	return of1(l...)
}

func all(c api.Complex) map[string]bool {
	set := map[string]bool{}
	for k := 1; k <= 8; k++ {
		l, _ := Simplices(c, k)
		for _, x := range l {
			set[fmt.Sprint(x)] = true
		}
	}
	return set
}

func TestConsequences(t *testing.T) {
	for seed := range uint32(60) {
		c, d := sample(seed), sample(seed+1000)
		union, _ := Union(c, d)
		meet, _ := Meet(c, d)
		a, b := all(c), all(d)
		both, either := map[string]bool{}, map[string]bool{}
		for x := range a {
			either[x] = true
			if b[x] {
				both[x] = true
			}
		}
		for x := range b {
			either[x] = true
		}
		want(t, "Union", all(union), either)
		want(t, "Meet", all(meet), both)
		e1, _ := Euler(c)
		e2, _ := Euler(d)
		e3, _ := Euler(union)
		e4, _ := Euler(meet)
		want(t, "Euler", e3, e1+e2-e4)
		vertices, _ := Vertices(c)
		for _, v := range vertices {
			star, _ := Star(c, []api.Vertex{v})
			link, _ := Link(c, []api.Vertex{v})
			cone, _ := Join(link, of1([]api.Vertex{v}))
			want(t, "star", star, cone)
		}
		k, _ := Components(c)
		for i, f := range c.Facets {
			for j, g := range c.Facets {
				common := slices.ContainsFunc(f, func(v api.Vertex) bool { return slices.Contains(g, v) })
				if common && k[i] != k[j] {
					t.Errorf("components %v of %v", k, c)
				}
			}
		}
		for _, f := range c.Facets {
			for n := range len(f) {
				x, _ := simplex.Faces(f, n+1)
				ok, _ := Contains(c, x[0])
				want(t, "Contains", ok, true)
			}
		}
	}
}
