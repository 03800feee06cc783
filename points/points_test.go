package points

import (
	"fmt"
	"testing"

	"roundtable/api"
	"roundtable/execution"
	"roundtable/failure"
	"roundtable/formula"
	"roundtable/library"
	"roundtable/partition"
	"roundtable/task"
	"roundtable/views"
)

func want(t *testing.T, what string, got, wanted any) {
	t.Helper()
	if fmt.Sprint(got) != fmt.Sprint(wanted) {
		t.Errorf("%s: got %v, want %v", what, got, wanted)
	}
}

func example(t *testing.T) api.System {
	t.Helper()
	c, _ := library.Consensus(2, 2)
	c, _ = task.Restrict(c, []int{0, 1})
	move := func(row int) api.Move {
		return api.Move{Round: api.Round{Graph: api.Graph{N: 2, Hears: [5]int{row, 3}}}}
	}
	s, e := execution.Build(api.Problem{Task: c, Adversary: api.Adversary{N: 2, States: [][]api.Move{{move(1), move(3)}}}, Rounds: 1})
	want(t, "Build", e, api.OK)
	return s
}

// places returns the points at which an atom is true.
func places(t *testing.T, s api.System, rule api.Rule, src string) []int {
	t.Helper()
	f, _, _ := formula.Parse(src, s.Problem.Task.N)
	set, e := Atom(s, rule, f)
	want(t, src, e, api.OK)
	var l []int
	for point, is := range set {
		if is {
			l = append(l, point)
		}
	}
	return l
}

func TestExample(t *testing.T) {
	s := example(t)
	n, e := Count(s)
	want(t, "Count", []any{n, e}, []any{8, api.OK})
	point, e := Number(s, 2, 1)
	want(t, "Number", []any{point, e}, []any{5, api.OK})
	x, k, e := Place(s, 5)
	want(t, "Place", []any{x, k, e}, []any{2, 1, api.OK})
	l, e := Classes(s, 0)
	want(t, "Classes", []any{l, e}, []any{[]int{0, 1, 0, 2, 0, 1, 0, 3}, api.OK})
	l, _ = Classes(s, 1)
	want(t, "Classes", l, []int{0, 1, 0, 1, 2, 3, 2, 3})
	l, e = Together(s, 3)
	want(t, "Together", []any{l, e}, []any{[]int{0, 1, 0, 2, 3, 4, 3, 5}, api.OK})
	l, e = Reach(s, 3)
	want(t, "Reach", []any{l, e}, []any{[]int{0, 1, 0, 1, 0, 1, 0, 1}, api.OK})
	l, _ = Together(s, 0)
	want(t, "Together", l, make([]int, 8))
	l, _ = Reach(s, 0)
	want(t, "Reach", l, []int{0, 1, 2, 3, 4, 5, 6, 7})
	rule := api.Rule{Out: []int{0, -1, 0, 1, 0, -1, 0, 0}}
	for src, l := range map[string][]int{
		"heard(0, 1)": {3, 7}, "input(1, 1)": {4, 5, 6, 7}, "given(0)": {0, 1, 2, 3, 4, 5, 6, 7}, "given(1)": {4, 5, 6, 7}, "at(1)": {1, 3, 5, 7}, "at(2)": nil, "true": {0, 1, 2, 3, 4, 5, 6, 7},
		"decided(0, 0)": {0, 1, 2, 3, 4, 5, 6, 7}, "decided(1, 1)": {1, 3}, "faulty(0)": nil, "heard(1, 1)": {0, 1, 2, 3, 4, 5, 6, 7}, "heard(1, 0)": {1, 3, 5, 7},
	} {
		want(t, src, places(t, s, rule, src), l)
	}
	want(t, "nobody decides", places(t, s, api.Rule{}, "decided(0, 0)"), []int{})
}

func TestErrors(t *testing.T) {
	s := example(t)
	bad := s
	bad.Executions = nil
	_, e := Count(bad)
	want(t, "Count", e, api.ErrForm)
	_, e = Number(bad, 9, 9)
	want(t, "Number", e, api.ErrForm)
	_, _, e = Place(bad, 99)
	want(t, "Place", e, api.ErrForm)
	_, e = Classes(bad, 9)
	want(t, "Classes", e, api.ErrForm)
	_, e = Together(bad, 9)
	want(t, "Together", e, api.ErrForm)
	_, e = Reach(bad, 9)
	want(t, "Reach", e, api.ErrForm)
	_, e = Atom(bad, api.Rule{Out: []int{1}}, api.Formula{})
	want(t, "Atom", e, api.ErrForm)
	for _, x := range []struct {
		e, k int
		err  api.Errno
	}{{-1, 9, api.ErrNone}, {4, 0, api.ErrNone}, {0, -1, api.ErrRange}, {0, 2, api.ErrRange}} {
		_, err := Number(s, x.e, x.k)
		want(t, "Number", err, x.err)
	}
	for _, i := range []int{-1, 8} {
		_, _, e = Place(s, i)
		want(t, "Place", e, api.ErrNone)
		_, e = Classes(s, i)
		want(t, "Classes", e, api.ErrRange)
		_, e = Together(s, i)
		want(t, "Together", e, api.ErrRange)
		_, e = Reach(s, i)
		want(t, "Reach", e, api.ErrRange)
	}
	for i, x := range []struct {
		r api.Rule
		f api.Formula
		e api.Errno
	}{{api.Rule{Out: []int{1}}, api.Formula{Op: 99}, api.ErrShape}, {api.Rule{}, api.Formula{Op: 99}, api.ErrArg}, {api.Rule{}, api.Formula{Op: api.FormulaNot, Args: []api.Formula{{}}}, api.ErrUse}, {api.Rule{}, api.Formula{Op: api.FormulaFaulty, Proc: 2}, api.ErrRange}} {
		_, e := Atom(s, x.r, x.f)
		want(t, fmt.Sprint("Atom ", i), e, x.e)
	}
}

func TestConsequences(t *testing.T) {
	c, _ := library.Consensus(3, 2)
	crash, _ := failure.Crash(3, 1)
	s, _ := execution.Build(api.Problem{Task: c, Adversary: crash, Rounds: 2})
	n, _ := Count(s)
	want(t, "Count", n, 3*len(s.Executions))
	for group := range 8 {
		together, _ := Together(s, group)
		reach, _ := Reach(s, group)
		for p := range 3 {
			classes, _ := Classes(s, p)
			if group>>p&1 == 1 {
				finer, _ := partition.Finer(together, classes)
				coarser, _ := partition.Finer(classes, reach)
				want(t, "groups", []bool{finer, coarser}, []bool{true, true})
			}
		}
	}
	faulty := places(t, s, api.Rule{}, "faulty(1)")
	set := map[int]bool{}
	for _, point := range faulty {
		set[point] = true
	}
	for point := range n {
		e, k := point/3, point%3
		want(t, "faulty", set[point], k > 0 && s.Executions[e].Word[k-1].Faulty>>1&1 == 1)
	}
	heard := places(t, s, api.Rule{}, "heard(2, 0)")
	set = map[int]bool{}
	for _, point := range heard {
		set[point] = true
	}
	for point := 0; point < n; point += 7 {
		e, k := point/3, point%3
		l, _ := views.Inputs(s.Table, s.Executions[e].Views[k][2])
		want(t, "heard", set[point], l[0] >= 0)
		if set[point] && k < 2 {
			want(t, "for ever", set[point+1], true)
		}
	}
}
