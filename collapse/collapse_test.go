package collapse

import (
	"fmt"
	"slices"
	"testing"

	"roundtable/api"
	"roundtable/complex"
)

func want(t *testing.T, what string, got, wanted any) {
	t.Helper()
	if fmt.Sprint(got) != fmt.Sprint(wanted) {
		t.Errorf("%s: got %v, want %v", what, got, wanted)
	}
}

// s returns the simplex of the vertices with some colors and the label 0.
func s(colors ...int) []api.Vertex {
	var l []api.Vertex
	for _, c := range colors {
		l = append(l, api.Vertex{Color: c})
	}
	return l
}

func of(l ...[]api.Vertex) api.Complex {
	c, _ := complex.Of(l)
	return c
}

func x(face, coface []api.Vertex) api.Collapse { return api.Collapse{Face: face, Coface: coface} }

func TestExamples(t *testing.T) {
	c := of(s(0, 1, 2), s(2, 3))
	l, e := Free(c)
	want(t, "Free", []any{l, e}, []any{[]api.Collapse{x(s(0, 1), s(0, 1, 2)), x(s(0, 2), s(0, 1, 2)), x(s(1, 2), s(0, 1, 2)), x(s(3), s(2, 3))}, api.OK})
	d, e := Step(c, l[0])
	want(t, "Step", []any{d, e}, []any{of(s(0, 2), s(1, 2), s(2, 3)), api.OK})
	d, _ = Step(c, l[3])
	want(t, "Step", d, of(s(0, 1, 2)))
	d, l, e = Reduce(c)
	want(t, "Reduce", []any{d, l, e}, []any{of(s(3)), []api.Collapse{x(s(0, 1), s(0, 1, 2)), x(s(0), s(0, 2)), x(s(1), s(1, 2)), x(s(2), s(2, 3))}, api.OK})
	want(t, "Verify", Verify(c, l, d), api.OK)
	v, found, e := Collapsible(c)
	want(t, "Collapsible", []any{v, found, e}, []any{api.VerdictYes, l, api.OK})
	circle := of(s(0, 1), s(0, 2), s(1, 2))
	l, _ = Free(circle)
	want(t, "Free", l, []api.Collapse{})
	for i, y := range []struct {
		c api.Complex
		v int
	}{{circle, api.VerdictNo}, {api.Complex{}, api.VerdictNo}, {of(s(0), s(1)), api.VerdictNo}, {of(s(0)), api.VerdictYes}, {of(s(0, 1), s(0, 2), s(1, 2), s(3)), api.VerdictNo}, {of(s(0, 1, 2, 3, 4)), api.VerdictYes}} {
		v, _, e := Collapsible(y.c)
		want(t, fmt.Sprint("Collapsible ", i), []any{v, e}, []any{y.v, api.OK})
	}
	// The projective plane has the characteristic 1, and no elementary collapse.
	projective := of(s(0, 1, 4), s(0, 1, 5), s(0, 2, 3), s(0, 2, 5), s(0, 3, 4), s(1, 2, 3), s(1, 2, 4), s(1, 3, 5), s(2, 4, 5), s(3, 4, 5))
	v, l, e = Collapsible(projective)
	want(t, "Collapsible", []any{v, l, e}, []any{api.VerdictUnknown, []api.Collapse{}, api.OK})
}

func TestErrors(t *testing.T) {
	c := of(s(0, 1, 2), s(2, 3))
	bad := api.Complex{Facets: [][]api.Vertex{nil}}
	_, e := Free(bad)
	want(t, "Free", e, api.ErrEmpty)
	_, e = Step(bad, x(s(1, 0), nil))
	want(t, "Step", e, api.ErrEmpty)
	_, _, e = Reduce(bad)
	want(t, "Reduce", e, api.ErrEmpty)
	_, _, e = Collapsible(bad)
	want(t, "Collapsible", e, api.ErrEmpty)
	want(t, "Verify", Verify(bad, nil, c), api.ErrEmpty)
	want(t, "Verify", Verify(c, nil, api.Complex{Facets: [][]api.Vertex{s(1), s(0)}}), api.ErrOrder)
	for i, y := range []struct {
		x api.Collapse
		e api.Errno
	}{
		{x(nil, s(1, 0)), api.ErrEmpty}, {x(s(0), s(1, 0)), api.ErrOrder}, {x(s(2), s(2, 3)), api.ErrNone}, {x(s(0), s(0, 1, 2)), api.ErrNone}, {x(s(0), s(0, 1)), api.ErrNone}, {x(s(0, 1), s(2, 3)), api.ErrNone}, {x(s(3), s(2)), api.ErrNone}, {x(s(0, 3), s(0, 1, 2)), api.ErrNone},
	} {
		_, e := Step(c, y.x)
		want(t, fmt.Sprint("Step ", i), e, y.e)
		want(t, fmt.Sprint("Verify ", i), Verify(c, []api.Collapse{y.x}, c), api.ErrProof)
	}
	want(t, "Verify", Verify(c, make([]api.Collapse, 4097), c), api.ErrMany)
	want(t, "Verify", Verify(c, nil, c), api.OK)
	want(t, "Verify", Verify(c, nil, of(s(0, 1, 2))), api.ErrProof)
	want(t, "Verify", Verify(c, nil, of(s(0, 1, 2), s(2, 4))), api.ErrProof)
	want(t, "Verify", Verify(c, []api.Collapse{x(s(3), s(2, 3))}, of(s(0, 1, 2))), api.OK)
	var wide api.Complex
	for i := range 4096 {
		wide.Facets = append(wide.Facets, []api.Vertex{{Label: 3 * i}, {Label: 3*i + 1}, {Label: 3*i + 2}})
	}
	_, _, e = Reduce(wide)
	want(t, "Reduce", e, api.ErrLimit)
	_, _, e = Collapsible(wide)
	want(t, "Collapsible", e, api.ErrLimit)
	l, e := Free(wide)
	want(t, "Free", []any{len(l), e}, []any{3 * 4096, api.OK})
	_, e = Step(wide, l[0])
	want(t, "Step", e, api.ErrMany)
	// In between there are more than MaxFacets facets.
	var steps []api.Collapse
	short := wide
	short.Facets = wide.Facets[:1366]
	for _, f := range short.Facets {
		steps = append(steps, x(f[:2], f), x(f[:1], []api.Vertex{f[0], f[2]}), x(f[1:2], f[1:]))
	}
	var dots api.Complex
	for _, f := range short.Facets[:1365] {
		dots.Facets = append(dots.Facets, f[2:])
	}
	want(t, "Verify", Verify(api.Complex{Facets: short.Facets[:1365]}, steps[:4095], dots), api.OK)
}

func TestConsequences(t *testing.T) {
	for n := 1; n <= 8; n++ {
		c := of(s(0, 1, 2, 3, 4, 5, 6, 7)[:n])
		v, l, _ := Collapsible(c)
		want(t, "simplex", []int{v, len(l)}, []int{api.VerdictYes, 1<<(n-1) - 1})
	}
	seed := uint32(5)
	for range 60 {
		var f [][]api.Vertex
		for range 6 {
			seed = seed*1664525 + 1013904223
			var colors []int
			for c := range 6 {
				if seed>>(9+c)&1 == 1 {
					colors = append(colors, c)
				}
			}
			if len(colors) > 0 {
				f = append(f, s(colors...))
			}
		}
		c := of(f...)
		if len(c.Facets) == 0 {
			continue
		}
		cone, _ := complex.Join(c, of(s(7)))
		v, _, _ := Collapsible(cone)
		want(t, "cone", v, api.VerdictYes)
		d, l, e := Reduce(c)
		want(t, "Reduce", []any{e, Verify(c, l, d)}, []any{api.OK, api.OK})
		free, _ := Free(d)
		before, _ := complex.Euler(c)
		after, _ := complex.Euler(d)
		want(t, "reduced", []int{len(free), after}, []int{0, before})
		step := c
		for i := range l {
			all, _ := Free(step)
			want(t, "first collapse", l[i], all[0])
			step, _ = Step(step, l[i])
			less := slices.Delete(slices.Clone(l), i, i+1)
			want(t, "Verify", Verify(c, less, d), api.ErrProof)
		}
		want(t, "steps", step, d)
	}
}
