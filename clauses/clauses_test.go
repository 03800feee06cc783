package clauses

import (
	"fmt"
	"slices"
	"testing"

	"roundtable/api"
)

func want(t *testing.T, what string, got, wanted any) {
	t.Helper()
	if fmt.Sprint(got) != fmt.Sprint(wanted) {
		t.Errorf("%s: got %v, want %v", what, got, wanted)
	}
}

func of(vars int, l ...[]int) api.Clauses { return api.Clauses{Vars: vars, List: l} }

func example() api.Clauses { return of(4, []int{1, 2}, []int{-1, 3}, []int{-2, -3}, []int{-2, 4}) }

func TestExamples(t *testing.T) {
	c := example()
	for i, x := range []struct {
		assumed, literals, reasons []int
		conflict                   int
	}{
		{[]int{1}, []int{1, 3, -2}, []int{-1, 1, 2}, -1}, {[]int{2}, []int{2, -3, -1, 4}, []int{-1, 2, 1, 3}, -1}, {[]int{1, 2}, []int{1, 2, 3}, []int{-1, -1, 1}, 2}, {nil, nil, nil, -1}, {[]int{-1, -2}, []int{-1, -2}, []int{-1, -1}, 0},
	} {
		l, r, k, e := Propagate(c, x.assumed)
		want(t, fmt.Sprint("Propagate ", i), []any{l, r, k, e}, []any{x.literals, x.reasons, x.conflict, api.OK})
	}
	i, ok, e := Eval(c, []int{1, -2, 3, -4})
	want(t, "Eval", []any{i, ok, e}, []any{0, true, api.OK})
	i, ok, _ = Eval(c, []int{1, 2, 3, 4})
	want(t, "Eval", []any{i, ok}, []any{2, false})
	l, e := Resolve([]int{1, 2}, []int{-1, 3}, 1)
	want(t, "Resolve", []any{l, e}, []any{[]int{2, 3}, api.OK})
	a, e := Assign(c, []int{-2})
	want(t, "Assign", []any{a, e}, []any{of(4, []int{1}, []int{-1, 3}), api.OK})
	a, _ = Assign(c, []int{2, 3})
	want(t, "Assign", a, of(4, []int{}, []int{4}))
	n, e := Normal(of(3, []int{3, -1, 3}, []int{2, 1, -2}, []int{}, []int{-1, 3}, []int{1}, []int{}))
	want(t, "Normal", []any{n, e}, []any{of(3, []int{-1, 3}, []int{}, []int{1}), api.OK})
	want(t, "Subsumes", []bool{Subsumes([]int{1, -2}, []int{-2, 5, 1}), Subsumes([]int{1}, []int{-1}), Subsumes(nil, nil), Subsumes([]int{0}, []int{0, 0}), Subsumes([]int{7}, nil)}, []bool{true, false, true, true, false})
	_, _, k, _ := Propagate(of(1, []int{1}, []int{}), nil)
	want(t, "empty clause", k, 1)
	l, _, k, _ = Propagate(of(2, []int{-1, 2}, []int{1}, []int{-2}), nil)
	want(t, "order", []any{l, k}, []any{[]int{1, 2}, 2})
}

func TestErrors(t *testing.T) {
	least := -1 << 63
	for i, x := range []struct {
		c    api.Clauses
		e, n api.Errno
	}{
		{of(-1, []int{0}), api.ErrRange, api.ErrRange}, {of(4097), api.ErrRange, api.ErrRange}, {of(0, make([][]int, 32769)...), api.ErrMany, api.ErrMany}, {of(2, []int{1, 2}, []int{0}), api.ErrRange, api.ErrRange}, {of(2, []int{3}), api.ErrRange, api.ErrRange}, {of(2, []int{least}), api.ErrRange, api.ErrRange},
		{of(2, []int{2, 1}, []int{9}), api.ErrOrder, api.ErrRange}, {of(2, []int{1, -1}), api.ErrOrder, api.OK}, {of(2, []int{2, 1}), api.ErrOrder, api.OK}, {of(4096, make([][]int, 32768)...), api.OK, api.OK},
	} {
		want(t, fmt.Sprint("Check ", i), Check(x.c), x.e)
		_, e := Normal(x.c)
		want(t, fmt.Sprint("Normal ", i), e, x.n)
		if x.e != api.OK {
			_, _, e = Eval(x.c, nil)
			want(t, "Eval", e, x.e)
			_, e = Assign(x.c, []int{0})
			want(t, "Assign", e, x.e)
			_, _, _, e = Propagate(x.c, []int{0})
			want(t, "Propagate", e, x.e)
		}
	}
	c := example()
	for _, x := range []struct {
		model []int
		e     api.Errno
	}{{nil, api.ErrShape}, {[]int{1, 2, 3, 5}, api.ErrForm}, {[]int{2, 1, 3, 4}, api.ErrForm}, {[]int{-1, -2, -3, -4}, api.OK}} {
		_, _, e := Eval(c, x.model)
		want(t, "Eval", e, x.e)
	}
	for _, x := range []struct {
		l []int
		e api.Errno
	}{{[]int{1, 0}, api.ErrRange}, {[]int{5}, api.ErrRange}, {[]int{least}, api.ErrRange}, {[]int{1, -1, 9}, api.ErrTwice}, {[]int{2, 2}, api.ErrTwice}} {
		_, e := Assign(c, x.l)
		want(t, "Assign", e, x.e)
		_, _, _, e = Propagate(c, x.l)
		want(t, "Propagate", e, x.e)
	}
	for i, x := range []struct {
		a, b []int
		v    int
		e    api.Errno
	}{{[]int{0}, []int{2, 1}, 0, api.ErrRange}, {[]int{1}, []int{2, 1}, 0, api.ErrOrder}, {[]int{1}, []int{-1}, 0, api.ErrRange}, {[]int{1}, []int{-1}, 4097, api.ErrRange}, {[]int{-1}, []int{-1}, 1, api.ErrNone}, {[]int{1}, []int{1}, 1, api.ErrNone}, {[]int{1, 2}, []int{-1, -2}, 1, api.ErrTwice}, {[]int{1}, []int{-1}, 1, api.OK}, {[]int{1, 4097}, []int{-1}, 1, api.ErrRange}} {
		_, e := Resolve(x.a, x.b, x.v)
		want(t, fmt.Sprint("Resolve ", i), e, x.e)
	}
}

// random returns clauses over some variables that depend on a seed.
func random(seed *uint32, vars, size int) api.Clauses {
	c := api.Clauses{Vars: vars}
	for range size {
		var clause []int
		for v := 1; v <= vars; v++ {
			*seed = *seed*1664525 + 1013904223
			switch *seed >> 20 % 6 {
			case 0:
				clause = append(clause, v)
			case 1:
				clause = append(clause, -v)
			}
		}
		c.List = append(c.List, clause)
	}
	return c
}

// naive propagates by the definition.
func naive(c api.Clauses, assumed []int) ([]int, []int, int) {
	assigned, reasons := slices.Clone(assumed), slices.Repeat([]int{-1}, len(assumed))
	for {
		found := false
		for i, clause := range c.List {
			var open []int
			satisfied := false
			for _, literal := range clause {
				satisfied = satisfied || slices.Contains(assigned, literal)
				if !slices.Contains(assigned, literal) && !slices.Contains(assigned, -literal) {
					open = append(open, literal)
				}
			}
			if satisfied || len(open) > 1 {
				continue
			}
			if len(open) == 0 {
				return assigned, reasons, i
			}
			assigned, reasons = append(assigned, open[0]), append(reasons, i)
			found = true
			break
		}
		if !found {
			return assigned, reasons, -1
		}
	}
}

func TestConsequences(t *testing.T) {
	seed := uint32(3)
	for k := range 400 {
		c := random(&seed, 6, 4+k%12)
		assumed := [][]int{nil, {2}, {-1, 4}, {6, -5, 3}}[k%4]
		l, r, conflict, _ := Propagate(c, assumed)
		wl, wr, wc := naive(c, assumed)
		want(t, "Propagate", []any{l, r, conflict}, []any{wl, wr, wc})
		normal, _ := Normal(c)
		assigned, _ := Assign(c, assumed)
		for bits := range 64 {
			model := make([]int, 6)
			for v := range model {
				model[v] = (v + 1) * (1 - bits>>v&1*2)
			}
			_, ok, _ := Eval(c, model)
			_, same, _ := Eval(normal, model)
			want(t, "normal form", same, ok)
			if Subsumes(assumed, model) {
				_, same, _ = Eval(assigned, model)
				want(t, "assigned", same, ok)
				if ok {
					want(t, "propagated", []any{Subsumes(l, model), conflict}, []any{true, -1})
				}
			}
			if len(c.List[0]) > 0 && ok {
				v := c.List[0][0]
				for _, other := range c.List {
					a, b := c.List[0], other
					if v < 0 {
						a, b = b, a
					}
					if resolvent, e := Resolve(a, b, variable(v)); e == api.OK {
						_, implied, _ := Eval(of(6, resolvent), model)
						want(t, "resolvent", implied, true)
					}
				}
			}
		}
	}
}
