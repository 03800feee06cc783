package bisimulation

import (
	"fmt"
	"slices"
	"testing"

	"roundtable/api"
	"roundtable/execution"
	"roundtable/failure"
	"roundtable/formula"
	"roundtable/library"
	"roundtable/partition"
	"roundtable/task"
	"roundtable/temporal"
)

func want(t *testing.T, what string, got, wanted any) {
	t.Helper()
	if fmt.Sprint(got) != fmt.Sprint(wanted) {
		t.Errorf("%s: got %v, want %v", what, got, wanted)
	}
}

func example(t *testing.T) api.System {
	t.Helper()
	c, _ := library.Consensus(2, 2)
	c, _ = task.Restrict(c, []int{0, 1})
	move := func(row int) api.Move {
		return api.Move{Round: api.Round{Graph: api.Graph{N: 2, Hears: [5]int{row, 3}}}}
	}
	s, e := execution.Build(api.Problem{Task: c, Adversary: api.Adversary{N: 2, States: [][]api.Move{{move(1), move(3)}}}, Rounds: 1})
	want(t, "Build", e, api.OK)
	return s
}

func TestExamples(t *testing.T) {
	none := []int{-1, -1, -1, -1}
	x := Structure{Atoms: []int{0, 0, 0, 1}, Agents: [][]int{{0, 1, 1, 2}}, Next: none}
	l, e := Coarsest(x)
	want(t, "Coarsest", []any{l, e}, []any{[]int{0, 0, 0, 1}, api.OK})
	x.Agents[0] = []int{0, 1, 2, 2}
	l, _ = Coarsest(x)
	want(t, "Coarsest", l, []int{0, 0, 1, 2})
	for _, y := range []struct {
		a, b, m int
		ok      bool
	}{{0, 2, 1, true}, {0, 3, 0, true}, {0, 1, 0, false}, {2, 2, 0, false}} {
		m, ok, e := Rank(x, y.a, y.b)
		want(t, "Rank", []any{m, ok, e}, []any{y.m, y.ok, api.OK})
	}
	q, l, e := Quotient(x)
	want(t, "Quotient", []any{q, l, e}, []any{Structure{Atoms: []int{0, 0, 1}, Agents: [][]int{{0, 1, 1}}, Next: none[:3]}, []int{0, 0, 1, 2}, api.OK})
	s := example(t)
	y, e := Of(s)
	want(t, "Of", []any{y, e}, []any{Structure{Atoms: []int{0, 1, 0, 2, 3, 4, 3, 5}, Agents: [][]int{{0, 1, 0, 2, 0, 1, 0, 3}, {0, 1, 0, 1, 2, 3, 2, 3}}, Next: []int{1, -1, 3, -1, 5, -1, 7, -1}}, api.OK})
	m, ok, _ := Rank(y, 0, 2)
	want(t, "Rank", []any{m, ok}, []any{1, true})
	f, ok, e := Formula(s, 0, 2)
	text, _ := formula.Format(f, 2)
	want(t, "Formula", []any{text, ok, e}, []any{"next(not heard(0, 1))", true, api.OK})
	f, ok, e = Formula(s, 3, 3)
	want(t, "Formula", []any{f, ok, e}, []any{api.Formula{}, false, api.OK})
	l, e = Coarsest(Structure{})
	want(t, "empty", []any{l, e, Verify(Structure{}, nil)}, []any{[]int{}, api.OK, api.OK})
}

func TestErrors(t *testing.T) {
	good := Structure{Atoms: []int{0, 0}, Agents: [][]int{{0, 1}}, Next: []int{1, -1}}
	for i, x := range []struct {
		x Structure
		e api.Errno
	}{
		{Structure{Atoms: make([]int, api.MaxSteps+1), Agents: make([][]int, 6)}, api.ErrMany}, {Structure{Agents: make([][]int, 6), Next: []int{0}}, api.ErrMany}, {Structure{Atoms: []int{0}}, api.ErrShape}, {Structure{Atoms: []int{7}, Next: []int{1}, Agents: [][]int{{4}}}, api.ErrRange}, {Structure{Atoms: []int{7}, Next: []int{-2}}, api.ErrRange},
		{Structure{Atoms: []int{7}, Next: []int{0}, Agents: [][]int{{0}, {1, 1}}}, api.ErrOrder}, {Structure{Atoms: []int{7}, Next: []int{0}, Agents: [][]int{{0, 0}, {1}}}, api.ErrShape}, {Structure{Atoms: []int{7}, Next: []int{0}, Agents: [][]int{{-1}}}, api.ErrRange},
	} {
		want(t, fmt.Sprint("Check ", i), Check(x.x), x.e)
		_, e := Coarsest(x.x)
		want(t, "Coarsest", e, x.e)
		_, _, e = Rank(x.x, 9, 9)
		want(t, "Rank", e, x.e)
		want(t, "Verify", Verify(x.x, []int{5}), x.e)
		_, _, e = Quotient(x.x)
		want(t, "Quotient", e, x.e)
	}
	for _, y := range [][2]int{{-1, 0}, {0, 2}} {
		_, _, e := Rank(good, y[0], y[1])
		want(t, "Rank", e, api.ErrNone)
	}
	for i, x := range []struct {
		l []int
		e api.Errno
	}{{[]int{1, 0}, api.ErrOrder}, {[]int{0}, api.ErrShape}, {[]int{0, 0}, api.ErrProof}, {[]int{0, 1}, api.OK}} {
		want(t, fmt.Sprint("Verify ", i), Verify(good, x.l), x.e)
	}
	s := example(t)
	bad := s
	bad.Executions = nil
	_, e := Of(bad)
	want(t, "Of", e, api.ErrForm)
	_, _, e = Formula(bad, 99, 99)
	want(t, "Formula", e, api.ErrForm)
	for _, y := range [][2]int{{-1, 0}, {0, 8}} {
		_, _, e = Formula(s, y[0], y[1])
		want(t, "Formula", e, api.ErrNone)
	}
	merged := Structure{Atoms: []int{0, 1}, Next: []int{-1, -1}}
	want(t, "Verify", Verify(merged, []int{0, 0}), api.ErrProof)
}

func TestConsequences(t *testing.T) {
	c, _ := library.Consensus(2, 2)
	three, _ := library.Consensus(3, 2)
	three, _ = task.Restrict(three, []int{0, 3})
	crash, _ := failure.Crash(2, 1)
	partition3, _ := failure.Partition(3, 1)
	for _, p := range []api.Problem{{Task: c, Adversary: crash, Rounds: 2}, {Task: three, Adversary: partition3, Rounds: 1}} {
		s, _ := execution.Build(p)
		x, _ := Of(s)
		l, _ := Coarsest(x)
		want(t, "Verify", Verify(x, l), api.OK)
		number, _ := partition.Count(l)
		if number > 2 {
			merged := slices.Clone(l)
			for i, label := range merged {
				if label == number-1 {
					merged[i] = 0
				}
			}
			merged, _ = partition.Of(merged)
			want(t, "merged classes", Verify(x, merged), api.ErrProof)
		}
		q, labels, _ := Quotient(x)
		want(t, "Quotient", []any{labels, Check(q), len(q.Atoms)}, []any{l, api.OK, number})
		again, _, _ := Quotient(q)
		want(t, "Quotient", again, q)
		for a := 0; a < len(l); a += 5 {
			for b := 0; b < len(l); b += 3 {
				f, ok, e := Formula(s, a, b)
				want(t, "Formula", []any{ok, e}, []any{l[a] != l[b], api.OK})
				m, ranked, _ := Rank(x, a, b)
				want(t, "Rank", []any{ranked, ok && m == 0}, []any{ok, x.Atoms[a] != x.Atoms[b]})
				if ok {
					set, e := temporal.Eval(s, api.Rule{}, f)
					want(t, "formula", []any{set[a], set[b], e}, []any{true, false, api.OK})
				}
			}
		}
		for _, src := range []string{"K(0, next(heard(1, 0)))", "C(everyone, given(1))", "E({1}, eventually(faulty(0)))"} {
			f, _, _ := formula.Parse(src, p.Task.N)
			set, _ := temporal.Eval(s, api.Rule{}, f)
			for a := range l {
				for b := range a {
					if l[a] == l[b] && set[a] != set[b] {
						t.Fatalf("%s tells %d and %d apart", src, a, b)
					}
				}
			}
		}
	}
}
