package rule

import (
	"fmt"
	"slices"
	"testing"

	"roundtable/api"
	"roundtable/execution"
	"roundtable/failure"
	"roundtable/library"
	"roundtable/task"
)

func want(t *testing.T, what string, got, wanted any) {
	t.Helper()
	if fmt.Sprint(got) != fmt.Sprint(wanted) {
		t.Errorf("%s: got %v, want %v", what, got, wanted)
	}
}

func example(t *testing.T) api.System {
	t.Helper()
	c, _ := library.Consensus(2, 2)
	c, _ = task.Restrict(c, []int{0, 1})
	move := func(row int) api.Move {
		return api.Move{Round: api.Round{Graph: api.Graph{N: 2, Hears: [5]int{row, 3}}}}
	}
	s, e := execution.Build(api.Problem{Task: c, Adversary: api.Adversary{N: 2, States: [][]api.Move{{move(1), move(3)}}}, Rounds: 1})
	want(t, "Build", e, api.OK)
	return s
}

func of(out ...int) api.Rule { return api.Rule{Out: out} }

func TestExample(t *testing.T) {
	s := example(t)
	r, e := Early(s, of(9, 9, 0, 0, 0, 9, 0, 0))
	want(t, "Early", []any{r, e}, []any{of(0, 0, 0, 0, 0, 0, 0, 0), api.OK})
	ok, i, e := Solves(s, r)
	want(t, "Solves", []any{ok, i, e}, []any{true, 0, api.OK})
	worst, total, e := Measure(s, r)
	want(t, "Measure", []any{worst, total, e}, []any{0, 0, api.OK})
	x, e := Early(s, of(-1, -1, 0, 0, 0, -1, 0, 1))
	want(t, "Early", []any{x, e}, []any{of(-1, 0, 0, 0, 0, 0, 0, 1), api.OK})
	ok, i, _ = Solves(s, x)
	want(t, "Solves", []any{ok, i}, []any{false, 3})
	l, e := Decisions(s, x, 3)
	want(t, "Decisions", []any{l, e}, []any{[]int{1, 0}, api.OK})
	l, e = Times(s, x, 3)
	want(t, "Times", []any{l, e}, []any{[]int{1, 0}, api.OK})
	worst, total, _ = Measure(s, x)
	want(t, "Measure", []int{worst, total}, []int{1, 4})
	none := of(-1, -1, -1, -1, -1, -1, -1, -1)
	l, _ = Times(s, none, 0)
	want(t, "Times", l, []int{-1, -1})
	_, _, e = Measure(s, none)
	want(t, "Measure", e, api.ErrGap)
	for _, y := range []struct {
		a, b api.Rule
		ok   bool
	}{{r, x, true}, {x, r, false}, {x, x, true}, {x, none, true}, {none, x, false}, {none, none, true}} {
		ok, e := Earlier(s, y.a, y.b)
		want(t, "Earlier", []any{ok, e}, []any{y.ok, api.OK})
	}
}

func TestErrors(t *testing.T) {
	s := example(t)
	bad := s
	bad.Executions = nil
	good := of(0, 0, 0, 0, 0, 0, 0, 0)
	for i, x := range []struct {
		s api.System
		r api.Rule
		e api.Errno
	}{{bad, of(), api.ErrForm}, {s, of(9), api.ErrShape}, {s, of(0, 0, 1, 9, 0, 0, 0, 0), api.ErrState}, {s, of(0, 2, 1, 0, 0, 0, 0, 0), api.ErrRange}, {s, of(-1, -1, -2, 0, 0, 0, 0, 0), api.ErrRange}, {s, of(0, 0, -1, 0, 0, 0, 0, 0), api.ErrState}, {s, good, api.OK}} {
		want(t, fmt.Sprint("Check ", i), Check(x.s, x.r), x.e)
		_, e := Decisions(x.s, x.r, 0)
		want(t, "Decisions", e, x.e)
		_, e = Times(x.s, x.r, 0)
		want(t, "Times", e, x.e)
		_, _, e = Solves(x.s, x.r)
		want(t, "Solves", e, x.e)
		_, e = Earlier(x.s, x.r, good)
		want(t, "Earlier", e, x.e)
		_, e = Earlier(x.s, good, x.r)
		want(t, "Earlier", e, x.e)
		_, _, e = Measure(x.s, x.r)
		want(t, "Measure", e, x.e)
	}
	for i, x := range []struct {
		s api.System
		r api.Rule
		e api.Errno
	}{{bad, of(), api.ErrForm}, {s, of(9), api.ErrShape}, {s, of(9, 9, -1, 7, 0, 9, 0, 0), api.ErrGap}, {s, of(9, 9, 0, 7, -1, 9, 0, 0), api.ErrRange}, {s, of(9, 9, -2, -1, 0, 9, 0, 0), api.ErrRange}} {
		_, e := Early(x.s, x.r)
		want(t, fmt.Sprint("Early ", i), e, x.e)
	}
	for _, i := range []int{-1, 4} {
		_, e := Decisions(s, good, i)
		want(t, "Decisions", e, api.ErrNone)
		_, e = Times(s, good, i)
		want(t, "Times", e, api.ErrNone)
	}
}

func TestConsequences(t *testing.T) {
	c, _ := library.Consensus(2, 2)
	crash, _ := failure.Crash(2, 1)
	s, _ := execution.Build(api.Problem{Task: c, Adversary: crash, Rounds: 2})
	relevant, _ := execution.Relevant(s)
	seed := uint32(2)
	for range 300 {
		choice := api.Rule{Out: slices.Repeat([]int{-1}, len(s.Table.Views))}
		late := api.Rule{Out: slices.Clone(choice.Out)}
		for _, v := range relevant {
			seed = seed*1664525 + 1013904223
			choice.Out[v] = int(seed >> 30 & seed >> 29 & 1)
			late.Out[v] = choice.Out[v]
		}
		early, e := Early(s, choice)
		want(t, "Early", []any{e, Check(s, early), Check(s, late)}, []any{api.OK, api.OK, api.OK})
		ok, _ := Earlier(s, early, late)
		want(t, "Earlier", ok, true)
		solves, i, _ := Solves(s, early)
		same, j, _ := Solves(s, late)
		want(t, "Solves", []any{solves, i}, []any{same, j})
		for e, x := range s.Executions {
			outs, _ := Decisions(s, early, e)
			obliged, _ := execution.Obliged(s, e)
			permitted, _ := task.Permitted(c, x.Case, 3&^obliged, outs)
			want(t, "permitted", solves && !permitted || !solves && e < i && !permitted, false)
		}
		w1, t1, e1 := Measure(s, early)
		w2, t2, e2 := Measure(s, late)
		want(t, "Measure", []any{e1, e2, w1 <= w2, t1 <= t2}, []any{api.OK, api.OK, true, true})
	}
}
