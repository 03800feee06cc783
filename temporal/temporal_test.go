package temporal

import (
	"fmt"
	"testing"

	"roundtable/api"
	"roundtable/execution"
	"roundtable/failure"
	"roundtable/formula"
	"roundtable/knowledge"
	"roundtable/library"
	"roundtable/task"
)

func want(t *testing.T, what string, got, wanted any) {
	t.Helper()
	if fmt.Sprint(got) != fmt.Sprint(wanted) {
		t.Errorf("%s: got %v, want %v", what, got, wanted)
	}
}

func example(t *testing.T) api.System {
	t.Helper()
	c, _ := library.Consensus(2, 2)
	c, _ = task.Restrict(c, []int{0, 1})
	move := func(row int) api.Move {
		return api.Move{Round: api.Round{Graph: api.Graph{N: 2, Hears: [5]int{row, 3}}}}
	}
	s, e := execution.Build(api.Problem{Task: c, Adversary: api.Adversary{N: 2, States: [][]api.Move{{move(1), move(3)}}}, Rounds: 1})
	want(t, "Build", e, api.OK)
	return s
}

func list(set []bool) []int {
	var l []int
	for point, is := range set {
		if is {
			l = append(l, point)
		}
	}
	return l
}

func of(n int, l ...int) []bool {
	set := make([]bool, n)
	for _, point := range l {
		set[point] = true
	}
	return set
}

func parse(t *testing.T, s api.System, src string) api.Formula {
	t.Helper()
	f, _, e := formula.Parse(src, s.Problem.Task.N)
	want(t, src, e, api.OK)
	return f
}

func TestExample(t *testing.T) {
	s := example(t)
	set := of(8, 1, 2, 7)
	l, e := Next(s, set)
	want(t, "Next", []any{list(l), e}, []any{[]int{0, 6}, api.OK})
	l, _ = Always(s, set)
	want(t, "Always", list(l), []int{1, 7})
	l, _ = Eventually(s, set)
	want(t, "Eventually", list(l), []int{0, 1, 2, 6, 7})
	l, _ = Until(s, of(8, 2, 4), of(8, 5, 6))
	want(t, "Until", list(l), []int{4, 5, 6})
	heard := parse(t, s, "eventually(heard(0, 1))")
	l, e = Eval(s, api.Rule{}, heard)
	want(t, "Eval", []any{list(l), e}, []any{[]int{2, 3, 6, 7}, api.OK})
	ok, point, e := Valid(s, api.Rule{}, heard)
	want(t, "Valid", []any{ok, point, e}, []any{false, 0, api.OK})
	ok, point, _ = Valid(s, api.Rule{}, parse(t, s, "given(0)"))
	want(t, "Valid", []any{ok, point}, []any{true, 0})
	ok, point, _ = Valid(s, api.Rule{}, parse(t, s, "at(0)"))
	want(t, "Valid", []any{ok, point}, []any{false, 1})
	r, e := Since(s, api.Rule{}, parse(t, s, "heard(0, 1)"))
	want(t, "Since", []any{r, e}, []any{[]int{-1, 1, -1, 1}, api.OK})
	r, _ = Since(s, api.Rule{}, parse(t, s, "at(0) or heard(1, 0)"))
	want(t, "Since", r, []int{0, 0, 0, 0})
	ok, e = Holds(s, api.Rule{}, heard, 6)
	want(t, "Holds", []any{ok, e}, []any{true, api.OK})
	rule := api.Rule{Out: []int{-1, -1, -1, 1, -1, -1, -1, -1}}
	l, _ = Eval(s, rule, parse(t, s, "K(1, next(decided(1, 1)))"))
	want(t, "Eval", list(l), []int{0, 2})
}

func TestErrors(t *testing.T) {
	s := example(t)
	bad := s
	bad.Executions = nil
	for _, x := range []struct {
		s   api.System
		set []bool
		e   api.Errno
	}{{bad, nil, api.ErrForm}, {s, make([]bool, 7), api.ErrShape}, {s, make([]bool, 9), api.ErrShape}} {
		_, e := Next(x.s, x.set)
		want(t, "Next", e, x.e)
		_, e = Always(x.s, x.set)
		want(t, "Always", e, x.e)
		_, e = Eventually(x.s, x.set)
		want(t, "Eventually", e, x.e)
		_, e = Until(x.s, x.set, make([]bool, 8))
		want(t, "Until", e, x.e)
		_, e = Until(x.s, make([]bool, 8), x.set)
		want(t, "Until", e, x.e)
	}
	for _, x := range []struct {
		s api.System
		r api.Rule
		f api.Formula
		e api.Errno
	}{{bad, api.Rule{Out: []int{1}}, api.Formula{}, api.ErrForm}, {s, api.Rule{Out: []int{1}}, api.Formula{Op: 99}, api.ErrShape}, {s, api.Rule{}, api.Formula{Op: 99}, api.ErrArg}} {
		_, e := Eval(x.s, x.r, x.f)
		want(t, "Eval", e, x.e)
		_, e = Holds(x.s, x.r, x.f, 99)
		want(t, "Holds", e, x.e)
		_, _, e = Valid(x.s, x.r, x.f)
		want(t, "Valid", e, x.e)
		_, e = Since(x.s, x.r, x.f)
		want(t, "Since", e, x.e)
	}
	for _, point := range []int{-1, 8} {
		_, e := Holds(s, api.Rule{}, api.Formula{}, point)
		want(t, "Holds", e, api.ErrNone)
	}
}

func TestConsequences(t *testing.T) {
	c, _ := library.Consensus(2, 2)
	crash, _ := failure.Crash(2, 1)
	s, _ := execution.Build(api.Problem{Task: c, Adversary: crash, Rounds: 2})
	valid := func(src string) {
		ok, point, e := Valid(s, api.Rule{}, parse(t, s, src))
		want(t, src, []any{ok, point, e}, []any{true, 0, api.OK})
	}
	for _, a := range []string{"heard(0, 1)", "faulty(1)", "at(1)", "K(0, given(1))", "C(everyone, at(2))", "next(faulty(0))"} {
		valid("not always(" + a + ") or " + a)
		valid("not always(not " + a + ") or not eventually(" + a + ")")
		valid("not eventually(" + a + ") or " + a + " or next(eventually(" + a + "))")
		valid("not (at(0) until " + a + ") or " + a + " or at(0) and next(at(0) until " + a + ")")
		f := parse(t, s, "not (always("+a+") and not eventually(next("+a+") until true))")
		normal, _ := formula.Normal(f, 2)
		x, _ := Eval(s, api.Rule{}, f)
		y, _ := Eval(s, api.Rule{}, normal)
		want(t, a, y, x)
		if g := parse(t, s, a); !formula.Temporal(g) {
			x, _ = Eval(s, api.Rule{}, g)
			y, _ = knowledge.Eval(s, api.Rule{}, g)
			want(t, a, y, x)
		}
	}
	valid("not heard(0, 1) or always(K(0, heard(0, 1)))")
	valid("not faulty(1) or always(faulty(1))")
	valid("eventually(at(2) and not next(true))")
}
