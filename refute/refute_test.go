package refute

import (
	"fmt"
	"slices"
	"testing"

	"roundtable/api"
)

func want(t *testing.T, what string, got, wanted any) {
	t.Helper()
	if fmt.Sprint(got) != fmt.Sprint(wanted) {
		t.Errorf("%s: got %v, want %v", what, got, wanted)
	}
}

func example() api.Clauses {
	return api.Clauses{Vars: 2, List: [][]int{{1, 2}, {1, -2}, {-1, 2}, {-1, -2}}}
}

func TestExamples(t *testing.T) {
	c := example()
	for i, x := range []struct {
		proof [][]int
		index int
		e     api.Errno
	}{
		{[][]int{{1}, {}}, 0, api.OK}, {[][]int{{}}, 0, api.ErrProof}, {[][]int{{1, 2}, {2}, {1}, {}}, 0, api.OK}, {nil, 0, api.ErrProof}, {[][]int{{1}}, 1, api.ErrProof}, {[][]int{{1}, {}, {-1}}, 3, api.ErrProof}, {[][]int{{1}, {2, 1}, {}}, 1, api.ErrOrder}, {[][]int{{}, {3}}, 1, api.ErrRange},
		{make([][]int, 32769), 0, api.ErrMany}, {[][]int{{1}, {}, {}}, 0, api.OK}, {[][]int{{1}, {0}}, 1, api.ErrRange},
	} {
		index, e := Verify(c, x.proof)
		want(t, fmt.Sprint("Verify ", i), []any{index, e}, []any{x.index, x.e})
		if x.e != api.OK {
			_, e = Trim(c, x.proof)
			want(t, "Trim", e, x.e)
			_, e = Core(c, x.proof)
			want(t, "Core", e, x.e)
		}
	}
	ok, e := Implied(c, []int{1})
	want(t, "Implied", []any{ok, e}, []any{true, api.OK})
	ok, _ = Implied(c, nil)
	want(t, "Implied", ok, false)
	ok, _ = Empty(c)
	want(t, "Empty", ok, false)
	ok, _ = Empty(api.Clauses{Vars: 1, List: [][]int{{1}, {-1}}})
	want(t, "Empty", ok, true)
	ok, _ = Empty(api.Clauses{List: [][]int{{}}})
	want(t, "Empty", ok, true)
	p, e := Trim(c, [][]int{{1, 2}, {2}, {1}, {}})
	want(t, "Trim", []any{p, e}, []any{[][]int{{2}, {}}, api.OK})
	l, e := Core(c, p)
	want(t, "Core", []any{l, e}, []any{[]int{0, 1, 2, 3}, api.OK})
	c.List = c.List[:3]
	_, e = Verify(c, [][]int{{1}, {2}, {}})
	want(t, "Verify", e, api.ErrProof)
}

func TestErrors(t *testing.T) {
	bad := api.Clauses{Vars: 1, List: [][]int{{2}}}
	_, e := Implied(bad, []int{0})
	want(t, "Implied", e, api.ErrRange)
	_, e = Verify(bad, nil)
	want(t, "Verify", e, api.ErrRange)
	_, e = Empty(bad)
	want(t, "Empty", e, api.ErrRange)
	_, e = Trim(bad, nil)
	want(t, "Trim", e, api.ErrRange)
	_, e = Core(bad, nil)
	want(t, "Core", e, api.ErrRange)
	for _, x := range []struct {
		clause []int
		e      api.Errno
	}{{[]int{3}, api.ErrRange}, {[]int{1, 1}, api.ErrOrder}, {[]int{2, -1, 9}, api.ErrOrder}, {[]int{0, 9}, api.ErrRange}} {
		_, e = Implied(example(), x.clause)
		want(t, "Implied", e, x.e)
	}
}

// allModels returns the clauses that exclude each model, and a refutation that resolves variable by variable.
func allModels(vars int) (api.Clauses, [][]int) {
	c := api.Clauses{Vars: vars}
	var proof [][]int
	for size := vars; size >= 0; size-- {
		for bits := range 1 << size {
			var clause []int
			for v := range size {
				clause = append(clause, (v+1)*(1-bits>>v&1*2))
			}
			if size == vars {
				c.List = append(c.List, clause)
			} else {
				proof = append(proof, clause)
			}
		}
	}
	return c, proof
}

func TestConsequences(t *testing.T) {
	for vars := 1; vars <= 5; vars++ {
		c, proof := allModels(vars)
		_, e := Verify(c, proof)
		want(t, "Verify", e, api.OK)
		p, _ := Trim(c, proof)
		_, e = Verify(c, p)
		want(t, "Trim", e, api.OK)
		for i := range p {
			_, e = Verify(c, slices.Delete(slices.Clone(p), i, i+1))
			want(t, "trimmed", e != api.OK, true)
		}
		want(t, "trimmed naively", p, trim(c, proof))
		l, _ := Core(c, p)
		want(t, "Core", len(l), len(c.List))
		more := c
		more.List = append([][]int{{1}}, c.List...)
		_, e = Verify(more, p)
		want(t, "more clauses", e, api.OK)
		l, _ = Core(more, p)
		want(t, "Core", l, core(more, p))
	}
	// A refutation of which parts are superfluous.
	c, proof := allModels(4)
	c.List = append([][]int{{1}, {-1, 2}, {-2, 3}, {-3}}, c.List...)
	p, _ := Trim(c, proof)
	want(t, "Trim", p, [][]int{{}})
	l, _ := Core(c, p)
	want(t, "Core", l, core(c, p))
}

// trim and core leave clauses out by the definitions.
func trim(c api.Clauses, proof [][]int) [][]int {
	for i := len(proof) - 2; i >= 0; i-- {
		less := slices.Delete(slices.Clone(proof), i, i+1)
		if _, e := Verify(c, less); e == api.OK {
			proof = less
		}
	}
	return proof
}

func core(c api.Clauses, proof [][]int) []int {
	var kept []int
	for i := len(c.List) - 1; i >= 0; i-- {
		less := api.Clauses{Vars: c.Vars, List: slices.Delete(slices.Clone(c.List), i, i+1)}
		if _, e := Verify(less, proof); e == api.OK {
			c = less
		} else {
			kept = append(kept, i)
		}
	}
	slices.Reverse(kept)
	return kept
}
