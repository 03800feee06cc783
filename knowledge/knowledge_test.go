package knowledge

import (
	"fmt"
	"slices"
	"testing"

	"roundtable/api"
	"roundtable/execution"
	"roundtable/failure"
	"roundtable/formula"
	"roundtable/library"
	"roundtable/points"
	"roundtable/task"
)

func want(t *testing.T, what string, got, wanted any) {
	t.Helper()
	if fmt.Sprint(got) != fmt.Sprint(wanted) {
		t.Errorf("%s: got %v, want %v", what, got, wanted)
	}
}

func example(t *testing.T) api.System {
	t.Helper()
	c, _ := library.Consensus(2, 2)
	c, _ = task.Restrict(c, []int{0, 1})
	move := func(row int) api.Move {
		return api.Move{Round: api.Round{Graph: api.Graph{N: 2, Hears: [5]int{row, 3}}}}
	}
	s, e := execution.Build(api.Problem{Task: c, Adversary: api.Adversary{N: 2, States: [][]api.Move{{move(1), move(3)}}}, Rounds: 1})
	want(t, "Build", e, api.OK)
	return s
}

func list(set []bool) []int {
	var l []int
	for point, is := range set {
		if is {
			l = append(l, point)
		}
	}
	return l
}

func eval(t *testing.T, s api.System, src string) []bool {
	t.Helper()
	f, _, _ := formula.Parse(src, s.Problem.Task.N)
	set, e := Eval(s, api.Rule{}, f)
	want(t, src, e, api.OK)
	return set
}

func TestExample(t *testing.T) {
	s := example(t)
	set := eval(t, s, "input(1, 1)")
	k, e := Knows(s, 1, set)
	want(t, "Knows", []any{list(k), e}, []any{[]int{4, 5, 6, 7}, api.OK})
	k, _ = Knows(s, 0, set)
	want(t, "Knows", list(k), []int{7})
	k, e = Everyone(s, 3, set)
	want(t, "Everyone", []any{list(k), e}, []any{[]int{7}, api.OK})
	k, e = Distributed(s, 3, set)
	want(t, "Distributed", []any{list(k), e}, []any{[]int{4, 5, 6, 7}, api.OK})
	k, number, e := Common(s, 3, set)
	want(t, "Common", []any{list(k), number, e}, []any{[]int{}, 2, api.OK})
	l, e := Levels(s, 3, set)
	want(t, "Levels", []any{l, e}, []any{[]int{-1, -1, -1, -1, 0, 0, 0, 1}, api.OK})
	want(t, "at(1)", list(eval(t, s, "C(everyone, at(1))")), []int{1, 3, 5, 7})
	k, number, _ = Common(s, 3, eval(t, s, "true"))
	want(t, "Common", []any{len(list(k)), number}, []any{8, 0})
	k, number, _ = Common(s, 0, eval(t, s, "not true"))
	want(t, "Common", []any{len(list(k)), number}, []any{8, 0})
	k, number, _ = Common(s, 3, eval(t, s, "not true"))
	want(t, "Common", []any{len(list(k)), number}, []any{0, 1})
	l, _ = Levels(s, 0, set)
	want(t, "Levels", l, []int{-1, -1, -1, -1, 8, 8, 8, 8})
	k, _ = Everyone(s, 0, set)
	want(t, "Everyone", len(list(k)), 8)
	k, _ = Distributed(s, 0, set)
	want(t, "Distributed", len(list(k)), 0)
	want(t, "formula", list(eval(t, s, "K(1, input(1, 1)) and not K(0, input(1, 1)) or E({}, not true) and at(0)")), []int{0, 2, 4, 5, 6})
}

func TestErrors(t *testing.T) {
	s := example(t)
	bad := s
	bad.Executions = nil
	set := make([]bool, 8)
	for _, x := range []struct {
		s     api.System
		group int
		set   []bool
		e     api.Errno
	}{{bad, 9, nil, api.ErrForm}, {s, 4, nil, api.ErrRange}, {s, -1, nil, api.ErrRange}, {s, 1, set[1:], api.ErrShape}, {s, 1, nil, api.ErrShape}} {
		_, e := Knows(x.s, x.group, x.set)
		want(t, "Knows", e, x.e)
		_, e = Everyone(x.s, x.group, x.set)
		want(t, "Everyone", e, x.e)
		_, e = Distributed(x.s, x.group, x.set)
		want(t, "Distributed", e, x.e)
		_, _, e = Common(x.s, x.group, x.set)
		want(t, "Common", e, x.e)
		_, e = Levels(x.s, x.group, x.set)
		want(t, "Levels", e, x.e)
	}
	_, e := Knows(s, 2, set)
	want(t, "Knows", e, api.ErrRange)
	next := api.Formula{Op: api.FormulaNext, Args: []api.Formula{{}}}
	for i, x := range []struct {
		s api.System
		r api.Rule
		f api.Formula
		e api.Errno
	}{{bad, api.Rule{Out: []int{1}}, next, api.ErrForm}, {s, api.Rule{Out: []int{1}}, api.Formula{Op: 99}, api.ErrShape}, {s, api.Rule{}, api.Formula{Op: 99}, api.ErrArg}, {s, api.Rule{}, next, api.ErrUse}, {s, api.Rule{}, api.Formula{Op: api.FormulaKnows, Args: []api.Formula{next}}, api.ErrUse}} {
		_, e := Eval(x.s, x.r, x.f)
		want(t, fmt.Sprint("Eval ", i), e, x.e)
	}
}

func TestConsequences(t *testing.T) {
	c, _ := library.Consensus(2, 2)
	crash, _ := failure.Crash(2, 1)
	s, _ := execution.Build(api.Problem{Task: c, Adversary: crash, Rounds: 2})
	n, _ := points.Count(s)
	for _, src := range []string{"input(0, 1)", "given(0)", "heard(1, 0)", "faulty(0)", "not faulty(0) or at(1)", "true", "not true", "given(1) and at(2)"} {
		set := eval(t, s, src)
		for group := range 4 {
			// The steps of common knowledge, by their definition.
			step := slices.Repeat([]bool{true}, n)
			number := 0
			for ; ; number++ {
				next := make([]bool, n)
				for point := range next {
					next[point] = set[point] && step[point]
				}
				next, _ = Everyone(s, group, next)
				if slices.Equal(next, step) {
					break
				}
				step = next
			}
			common, m, _ := Common(s, group, set)
			want(t, fmt.Sprint(src, " common for ", group), []any{list(common), m}, []any{list(step), number})
			levels, _ := Levels(s, group, set)
			deeper := set
			for depth := range n + 1 {
				for point, is := range deeper {
					if set[point] && is != (levels[point] >= depth) || !set[point] && levels[point] != -1 {
						t.Fatalf("%s: level %d of %d for %d", src, levels[point], point, group)
					}
				}
				deeper, _ = Everyone(s, group, deeper)
			}
			for point, level := range levels {
				want(t, "level", level == n, common[point] && set[point])
			}
			d, _ := Distributed(s, group, set)
			for p := range 2 {
				k, _ := Knows(s, p, set)
				again, _ := Knows(s, p, k)
				want(t, "knows", again, k)
				not := make([]bool, n)
				for point, is := range k {
					not[point] = !is
					if is && (!set[point] || group>>p&1 == 1 && !d[point]) {
						t.Fatalf("%s: what is known at %d", src, point)
					}
				}
				again, _ = Knows(s, p, not)
				want(t, "knows not", again, not)
			}
		}
	}
}
