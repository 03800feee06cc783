package formula

import (
	"fmt"
	"strings"
	"testing"

	"roundtable/api"
	"roundtable/permutation"
)

func want(t *testing.T, what string, got, wanted any) {
	t.Helper()
	if fmt.Sprint(got) != fmt.Sprint(wanted) {
		t.Errorf("%s: got %v, want %v", what, got, wanted)
	}
}

func parse(t *testing.T, s string) api.Formula {
	t.Helper()
	f, _, e := Parse(s, 3)
	want(t, s, e, api.OK)
	return f
}

func text(f api.Formula) string {
	s, e := Format(f, 3)
	if e != api.OK {
		return fmt.Sprint("error ", e)
	}
	return s
}

func TestNormal(t *testing.T) {
	for src, normal := range map[string]string{
		"not (input(0, 1) and not K(1, input(0, 1)))": "not input(0, 1) or K(1, input(0, 1))", "not always(not given(1))": "eventually(given(1))", "not next(given(1))": "not next(given(1))", "not not not true": "not true",
		"not (true until not not at(1))": "not (true until at(1))", "not eventually(faulty(0) or true)": "always(not faulty(0) and not true)", "K(0, not (true or at(1)))": "K(0, not true and not at(1))", "not E({0}, not not true)": "not E({0}, true)",
	} {
		f, e := Normal(parse(t, src), 3)
		want(t, src, []any{text(f), e}, []any{normal, api.OK})
		again, _ := Normal(f, 3)
		want(t, src, text(again), normal)
	}
	f := parse(t, "not (input(0, 1) and not K(1, input(0, 1)))")
	n, d := Size(f)
	want(t, "Size", []int{n, d, Agents(f), Nesting(f)}, []int{6, 5, 2, 1})
	l, e := Parts(f, 3)
	var parts []string
	for _, part := range l {
		parts = append(parts, text(part))
	}
	want(t, "Parts", []any{strings.Join(parts, " | "), e}, []any{"input(0, 1) | K(1, input(0, 1)) | not K(1, input(0, 1)) | input(0, 1) and not K(1, input(0, 1)) | not (input(0, 1) and not K(1, input(0, 1)))", api.OK})
	big := parse(t, "true")
	for range 6 {
		big = api.Formula{Op: api.FormulaAnd, Args: []api.Formula{big, big}}
		negated := api.Formula{Op: api.FormulaNot, Args: []api.Formula{big}}
		n, _ := Size(negated)
		_, e = Normal(negated, 3)
		want(t, "Normal", []any{Check(negated, 3), e == api.ErrMany}, []any{api.OK, n == 128})
	}
}

func TestTexts(t *testing.T) {
	for _, x := range []struct {
		src string
		n   int
		at  int
		e   api.Errno
	}{{"K(2, true)", 2, 2, api.ErrRange}, {"K(2, true)", 3, 0, api.OK}, {"K(", 9, 2, api.ErrSyntax}, {"true", 9, 0, api.ErrRange}, {"at(1) until", 1, 11, api.ErrSyntax}} {
		_, at, e := Parse(x.src, x.n)
		want(t, x.src, []any{at, e}, []any{x.at, x.e})
	}
	for _, src := range []string{"true", "E({0, 2}, heard(0, 1)) until C(everyone, D({}, decided(1, 7)))", "next(always(eventually(not at(6))))"} {
		want(t, src, text(parse(t, src)), src)
	}
}

func TestErrors(t *testing.T) {
	for _, x := range []struct {
		f api.Formula
		n int
		e api.Errno
	}{{api.Formula{Op: 99}, 0, api.ErrRange}, {api.Formula{Op: 99}, 2, api.ErrArg}, {api.Formula{Op: api.FormulaFaulty, Proc: 2}, 2, api.ErrRange}, {api.Formula{Value: 1}, 2, api.ErrForm}, {api.Formula{}, 2, api.OK}} {
		want(t, "Check", Check(x.f, x.n), x.e)
		_, e := Parts(x.f, x.n)
		want(t, "Parts", e, x.e)
		_, e = Normal(x.f, x.n)
		want(t, "Normal", e, x.e)
		_, e = Format(x.f, x.n)
		want(t, "Format", e, x.e)
		if x.n > 0 {
			_, e = Permute(x.f, []int{1, 0})
			want(t, "Permute", e, x.e)
		}
	}
	_, e := Permute(api.Formula{Op: 99}, []int{0, 0})
	want(t, "Permute", e, api.ErrTwice)
}

func TestAnyFormula(t *testing.T) {
	deep := api.Formula{Op: api.FormulaUntil}
	for range 200000 {
		deep = api.Formula{Op: api.FormulaKnows, Proc: 3, Args: []api.Formula{deep}}
	}
	n, d := Size(deep)
	want(t, "any formula", []any{n, d, Nesting(deep), Agents(deep), Temporal(deep), Same(deep, deep), Same(deep, deep.Args[0])}, []any{200001, 200001, 200000, 8, true, true, false})
	odd := api.Formula{Op: api.FormulaCommon, Group: 32, Args: []api.Formula{{Op: api.FormulaKnows, Proc: 5}, {Op: api.FormulaKnows, Proc: -1}, {Op: -1, Group: 7}, {Op: api.FormulaEveryone, Group: 5}, {Op: 18}}}
	want(t, "any formula", []any{Agents(odd), Nesting(odd), Temporal(odd)}, []any{5, 2, false})
	want(t, "Same", []bool{Same(api.Formula{Proc: 1}, api.Formula{}), Same(api.Formula{Other: 1}, api.Formula{}), Same(api.Formula{Value: 1}, api.Formula{}), Same(api.Formula{Group: 1}, api.Formula{}), Same(api.Formula{Args: []api.Formula{}}, api.Formula{})}, []bool{false, false, false, false, true})
}

func TestPermute(t *testing.T) {
	f, e := Permute(parse(t, "C({0}, heard(0, 1))"), []int{1, 0, 2})
	want(t, "Permute", []any{text(f), e}, []any{"C({1}, heard(1, 0))", api.OK})
	g := parse(t, "K(0, E({0, 2}, faulty(1))) until (input(2, 1) or decided(0, 2)) and given(2)")
	all, _ := permutation.All(3)
	for _, a := range all {
		x, _ := Permute(g, a)
		agents, _ := permutation.Set(a, Agents(g))
		n, d := Size(g)
		m, k := Size(x)
		want(t, "Permute", []int{Agents(x), m, k}, []int{agents, n, d})
		for _, b := range all {
			ba, _ := permutation.Compose(b, a)
			y, _ := Permute(x, b)
			z, _ := Permute(g, ba)
			want(t, "composition", Same(y, z), true)
		}
	}
	l, _ := Parts(g, 3)
	want(t, "last part", Same(l[len(l)-1], g), true)
	l[len(l)-1].Args[0].Proc = 9
	want(t, "memory", Check(g, 3), api.OK)
}
