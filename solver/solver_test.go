package solver

import (
	"fmt"
	"slices"
	"testing"

	"roundtable/api"
	"roundtable/clauses"
	"roundtable/refute"
)

func want(t *testing.T, what string, got, wanted any) {
	t.Helper()
	if fmt.Sprint(got) != fmt.Sprint(wanted) {
		t.Errorf("%s: got %v, want %v", what, got, wanted)
	}
}

func of(vars int, l ...[]int) api.Clauses { return api.Clauses{Vars: vars, List: l} }

func TestExamples(t *testing.T) {
	c := of(3, []int{1, 2}, []int{-1, 3}, []int{-2, 3})
	m, e := Models(c, 3)
	want(t, "Models", []any{m, e}, []any{[][]int{{1, 2, 3}, {1, -2, 3}, {-1, 2, 3}}, api.OK})
	n, e := Count(c)
	want(t, "Count", []any{n, e}, []any{3, api.OK})
	for _, x := range []struct {
		clause []int
		ok     bool
	}{{[]int{3}, true}, {[]int{1, 2}, true}, {[]int{1}, false}, {nil, false}} {
		ok, e := Implies(c, x.clause)
		want(t, "Implies", []any{ok, e}, []any{x.ok, api.OK})
	}
	none := of(3, []int{1, 2}, []int{-1, 3}, []int{-2, 3}, []int{-3})
	l, e := Core(none)
	want(t, "Core", []any{l, e}, []any{[]int{0, 1, 2, 3}, api.OK})
	none.List = slices.Insert(none.List, 0, []int{1})
	l, _ = Core(none)
	want(t, "Core", l, []int{0, 2, 4})
	v, model, core, e := Under(c, []int{1, -3})
	want(t, "Under", []any{v, model, slices.Contains(core, -3), e}, []any{api.VerdictNo, []int{}, true, api.OK})
	v, _, core, _ = Under(c, []int{-3})
	want(t, "Under", []any{v, core}, []any{api.VerdictNo, []int{-3}})
	v, model, core, _ = Under(c, []int{-1})
	want(t, "Under", []any{v, model, core}, []any{api.VerdictYes, []int{-1, 2, 3}, []int{}})
	for i, x := range []struct {
		c     api.Clauses
		n, v  int
		proof int
	}{{of(0), 1, api.VerdictYes, 0}, {of(0, []int{}), 0, api.VerdictNo, 1}, {of(1, []int{1}, []int{-1}), 0, api.VerdictNo, 1}, {of(20), 1 << 20, api.VerdictYes, 0}, {of(7, []int{7}), 64, api.VerdictYes, 0}, {of(5, []int{1, -5}, []int{}), 0, api.VerdictNo, 1}} {
		n, _ := Count(x.c)
		v, model, proof, e := Solve(x.c)
		want(t, fmt.Sprint("Solve ", i), []any{n, v, len(proof), e}, []any{x.n, x.v, x.proof, api.OK})
		if v == api.VerdictYes {
			_, ok, e := clauses.Eval(x.c, model)
			want(t, "model", []any{ok, e}, []any{true, api.OK})
		}
	}
}

func TestErrors(t *testing.T) {
	bad := of(1, []int{2})
	_, _, _, e := Solve(bad)
	want(t, "Solve", e, api.ErrRange)
	_, _, _, e = Under(bad, []int{0})
	want(t, "Under", e, api.ErrRange)
	_, e = Models(bad, -1)
	want(t, "Models", e, api.ErrRange)
	_, e = Count(bad)
	want(t, "Count", e, api.ErrRange)
	_, e = Implies(bad, []int{0})
	want(t, "Implies", e, api.ErrRange)
	_, e = Core(bad)
	want(t, "Core", e, api.ErrRange)
	_, _, _, e = Under(of(2), []int{1, -1})
	want(t, "Under", e, api.ErrTwice)
	for _, x := range []struct {
		vars, most int
		e          api.Errno
	}{{21, -1, api.ErrRange}, {21, 1025, api.ErrRange}, {21, 1, api.ErrLimit}, {20, 1024, api.ErrMany}, {10, 1024, api.OK}, {11, 1024, api.ErrMany}, {0, 0, api.ErrMany}} {
		_, e = Models(of(x.vars), x.most)
		want(t, "Models", e, x.e)
	}
	_, e = Count(of(21))
	want(t, "Count", e, api.ErrLimit)
	_, e = Implies(of(2), []int{2, 1})
	want(t, "Implies", e, api.ErrOrder)
	_, e = Core(of(1, []int{1}))
	want(t, "Core", e, api.ErrNone)
	_, e = Core(of(30))
	want(t, "Core", e, api.ErrNone)
}

// random returns clauses with three literals that depend on a seed.
func random(seed *uint32, vars, size int) api.Clauses {
	next := func(n int) int {
		*seed = *seed*1664525 + 1013904223
		return int(*seed >> 12 % uint32(n))
	}
	c := api.Clauses{Vars: vars}
	for range size {
		var clause []int
		for len(clause) < 3 {
			if v := 1 + next(vars); !slices.Contains(clause, v) && !slices.Contains(clause, -v) {
				clause = append(clause, v*(1-2*next(2)))
			}
		}
		slices.SortFunc(clause, func(a, b int) int { return variable(a) - variable(b) })
		c.List = append(c.List, clause)
	}
	return c
}

func check(t *testing.T, c api.Clauses) int {
	t.Helper()
	v, model, proof, e := Solve(c)
	want(t, "Solve", e, api.OK)
	if v == api.VerdictYes {
		_, ok, _ := clauses.Eval(c, model)
		want(t, "model", []any{ok, len(proof)}, []any{true, 0})
	} else {
		_, e := refute.Verify(c, proof)
		want(t, "refutation", []any{e, len(model), len(proof) <= api.MaxClauses}, []any{api.OK, 0, true})
	}
	return v
}

func TestRandom(t *testing.T) {
	seed := uint32(11)
	for k := range 250 {
		c := random(&seed, 5+k%8, 10+k%45)
		v := check(t, c)
		n, _ := Count(c)
		want(t, "Count", n > 0, v == api.VerdictYes)
		if n <= api.MaxList {
			m, _ := Models(c, n)
			want(t, "Models", len(m), n)
			for i, model := range m {
				_, ok, _ := clauses.Eval(c, model)
				want(t, "model", []any{ok, i == 0 || later(m[i-1], model)}, []any{true, true})
				if i > 5 {
					break
				}
			}
		}
		assumed := []int{-2, 5, 1}[:1+k%3]
		under, _, core, _ := Under(c, assumed)
		more := c
		more.List = slices.Clone(c.List)
		for _, literal := range assumed {
			more.List = append(more.List, []int{literal})
		}
		number, _ := Count(more)
		want(t, "Under", under == api.VerdictYes, number > 0)
		if under == api.VerdictNo {
			more.List = slices.Clone(c.List)
			for _, literal := range core {
				want(t, "core", slices.Contains(assumed, literal), true)
				more.List = append(more.List, []int{literal})
			}
			number, _ = Count(more)
			want(t, "core", number, 0)
		}
		clause := c.List[k%len(c.List)][:2]
		ok, _ := Implies(c, clause)
		more.List = append(slices.Clone(c.List), clause)
		number, _ = Count(more)
		want(t, "Implies", ok, number == n)
		if v == api.VerdictNo {
			part, _ := Core(c)
			want(t, "Core", part, core1(c))
		}
	}
}

func later(a, b []int) bool {
	for v := range a {
		if a[v] != b[v] {
			return a[v] > 0
		}
	}
	return false
}

// core1 leaves clauses out by the definition.
func core1(c api.Clauses) []int {
	var kept []int
	for i := len(c.List) - 1; i >= 0; i-- {
		less := api.Clauses{Vars: c.Vars, List: slices.Delete(slices.Clone(c.List), i, i+1)}
		if n, _ := Count(less); n == 0 {
			c = less
		} else {
			kept = append(kept, i)
		}
	}
	slices.Reverse(kept)
	return kept
}

// pigeons returns the clauses which say that some pigeons fit into holes.
func pigeons(pigeons, holes int) api.Clauses {
	c := api.Clauses{Vars: pigeons * holes}
	for p := range pigeons {
		var clause []int
		for h := range holes {
			clause = append(clause, p*holes+h+1)
			for q := range p {
				c.List = append(c.List, []int{-(q*holes + h + 1), -(p*holes + h + 1)})
			}
		}
		c.List = append(c.List, clause)
	}
	return c
}

func TestLarger(t *testing.T) {
	want(t, "pigeons", check(t, pigeons(6, 5)), api.VerdictNo)
	want(t, "pigeons", check(t, pigeons(6, 6)), api.VerdictYes)
	seed := uint32(4)
	for k := range 10 {
		check(t, random(&seed, 100, 380+k*12))
	}
	full := api.Clauses{Vars: 10}
	for bits := range 1 << 10 {
		var clause []int
		for v := range 10 {
			clause = append(clause, (v+1)*(1-bits>>v&1*2))
		}
		full.List = append(full.List, clause)
	}
	want(t, "all models excluded", check(t, full), api.VerdictNo)
	l, _ := Core(full)
	want(t, "Core", len(l), 1024)
	// A search that is given up, or a refutation that is too long.
	_, _, _, e := Solve(pigeons(12, 11))
	want(t, "Solve", e, api.ErrLimit)
}
