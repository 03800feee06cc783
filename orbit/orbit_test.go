package orbit

import (
	"fmt"
	"slices"
	"testing"

	"roundtable/api"
	"roundtable/execution"
	"roundtable/failure"
	"roundtable/library"
	"roundtable/permutation"
	"roundtable/symmetry"
	"roundtable/task"
)

func want(t *testing.T, what string, got, wanted any) {
	t.Helper()
	if fmt.Sprint(got) != fmt.Sprint(wanted) {
		t.Errorf("%s: got %v, want %v", what, got, wanted)
	}
}

func graphs(l ...[]int) api.Adversary {
	a := api.Adversary{N: len(l[0]), States: [][]api.Move{nil}}
	for _, hears := range l {
		m := api.Move{Round: api.Round{Graph: api.Graph{N: a.N}}}
		copy(m.Round.Graph.Hears[:], hears)
		a.States[0] = append(a.States[0], m)
	}
	return a
}

func example(t *testing.T) api.System {
	t.Helper()
	c, _ := library.Consensus(2, 2)
	s, e := execution.Build(api.Problem{Task: c, Adversary: graphs([]int{1, 3}, []int{3, 2}, []int{3, 3}), Rounds: 1})
	want(t, "Build", e, api.OK)
	return s
}

func TestExamples(t *testing.T) {
	s := example(t)
	want(t, "system", []int{len(s.Executions), len(s.Table.Views)}, []int{12, 16})
	swap := []int{1, 0}
	l, e := Executions(s, swap)
	want(t, "Executions", []any{l, e}, []any{[]int{1, 0, 2, 7, 6, 8, 4, 3, 5, 10, 9, 11}, api.OK})
	i, e := Execution(s, swap, 5)
	want(t, "Execution", []any{i, e}, []any{8, api.OK})
	v, e := Views(s, swap)
	want(t, "Views", []any{v[:2], e}, []any{[]int{1, 0}, api.OK})
	o, e := Orbits(s, [][]int{swap})
	want(t, "Orbits", []any{o, e}, []any{[][]int{{0, 1}, {2}, {3, 7}, {4, 6}, {5, 8}, {9, 10}, {11}}, api.OK})
	l, _ = Representatives(s, [][]int{swap})
	want(t, "Representatives", l, []int{0, 2, 3, 4, 5, 9, 11})
	l, e = Unfold(s, [][]int{swap}, 7)
	want(t, "Unfold", []any{l, e}, []any{[]int{3, 7}, api.OK})
	values := make([]int, 16)
	ok, e := Invariant(s, swap, values)
	want(t, "Invariant", []any{ok, e}, []any{true, api.OK})
	values[0] = 1
	ok, _ = Invariant(s, swap, values)
	want(t, "Invariant", ok, false)
	o, _ = Orbits(s, nil)
	want(t, "Orbits", len(o), 12)
}

func TestErrors(t *testing.T) {
	s := example(t)
	bad := s
	bad.Executions = nil
	c, _ := task.Restrict(s.Problem.Task, []int{0, 1})
	half, _ := execution.Build(api.Problem{Task: c, Adversary: s.Problem.Adversary, Rounds: 1})
	one, _ := execution.Build(api.Problem{Task: s.Problem.Task, Adversary: graphs([]int{1, 3}), Rounds: 1})
	for i, x := range []struct {
		s  api.System
		pi []int
		e  api.Errno
	}{{bad, nil, api.ErrForm}, {s, []int{0, 0}, api.ErrTwice}, {s, []int{0}, api.ErrMismatch}, {half, []int{1, 0}, api.ErrGap}, {one, []int{1, 0}, api.ErrGap}} {
		_, e := Executions(x.s, x.pi)
		want(t, fmt.Sprint("Executions ", i), e, x.e)
		_, e = Views(x.s, x.pi)
		want(t, "Views", e, x.e)
		_, e = Invariant(x.s, x.pi, nil)
		want(t, "Invariant", e, x.e)
		_, e = Execution(x.s, x.pi, len(x.s.Executions)-1)
		want(t, "Execution", e, x.e)
		l := [][]int{{0, 1}, x.pi}
		if x.pi == nil {
			l = make([][]int, 2000)
		}
		_, e = Orbits(x.s, l)
		want(t, "Orbits", e, x.e)
		_, e = Representatives(x.s, l)
		want(t, "Representatives", e, x.e)
		_, e = Unfold(x.s, l, 99)
		want(t, "Unfold", e, x.e)
	}
	for _, e := range []int{-1, 12} {
		_, err := Execution(s, []int{1, 0}, e)
		want(t, "Execution", err, api.ErrNone)
		_, err = Unfold(s, nil, e)
		want(t, "Unfold", err, api.ErrNone)
	}
	_, err := Execution(half, []int{1, 0}, 0)
	want(t, "Execution", err, api.OK)
	_, err = Orbits(s, make([][]int, 1025))
	want(t, "Orbits", err, api.ErrMany)
	_, err = Invariant(s, []int{1, 0}, make([]int, 15))
	want(t, "Invariant", err, api.ErrShape)
}

func TestConsequences(t *testing.T) {
	c, _ := library.SetAgreement(3, 2, 2)
	crash, _ := failure.Crash(3, 1)
	p := api.Problem{Task: c, Adversary: crash, Rounds: 2}
	s, _ := execution.Build(p)
	l, _ := symmetry.Symmetries(p)
	want(t, "Symmetries", len(l), 6)
	for _, a := range l {
		ia, e := Executions(s, a)
		want(t, "Executions", e, api.OK)
		va, _ := Views(s, a)
		for v, image := range va {
			x, y := s.Table.Views[v], s.Table.Views[image]
			want(t, "image", []int{y.Proc, y.Round, y.Input}, []int{a[x.Proc], x.Round, x.Input})
			for q, h := range x.Heard[:3] {
				if h >= 0 {
					h = va[h]
				}
				want(t, "heard", y.Heard[a[q]], h)
			}
		}
		for e, image := range ia {
			x, _ := execution.Obliged(s, e)
			y, _ := execution.Obliged(s, image)
			x, _ = permutation.Set(a, x)
			want(t, "Obliged", y, x)
			break
		}
		for _, b := range l[:3] {
			ab, _ := permutation.Compose(a, b)
			ib, _ := Executions(s, b)
			iab, _ := Executions(s, ab)
			for e := range iab {
				if iab[e] != ia[ib[e]] {
					t.Errorf("composition of %v and %v", a, b)
					break
				}
			}
		}
	}
	o, _ := Orbits(s, [][]int{{1, 2, 0}, {1, 0, 2}})
	full, _ := Orbits(s, l)
	want(t, "Orbits", full, o)
	all := slices.Concat(o...)
	slices.Sort(all)
	want(t, "executions", []int{len(all), all[len(all)-1]}, []int{len(s.Executions), len(s.Executions) - 1})
}
