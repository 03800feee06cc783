package encode

import (
	"fmt"
	"slices"
	"testing"

	"roundtable/api"
	"roundtable/clauses"
	"roundtable/execution"
	"roundtable/failure"
	"roundtable/library"
	"roundtable/solver"
	"roundtable/task"
)

func want(t *testing.T, what string, got, wanted any) {
	t.Helper()
	if fmt.Sprint(got) != fmt.Sprint(wanted) {
		t.Errorf("%s: got %v, want %v", what, got, wanted)
	}
}

func example(t *testing.T) api.System {
	t.Helper()
	c, _ := library.Consensus(2, 2)
	c, _ = task.Restrict(c, []int{0, 1})
	move := func(row int) api.Move {
		return api.Move{Round: api.Round{Graph: api.Graph{N: 2, Hears: [5]int{row, 3}}}}
	}
	s, e := execution.Build(api.Problem{Task: c, Adversary: api.Adversary{N: 2, States: [][]api.Move{{move(1), move(3)}}}, Rounds: 1})
	want(t, "Build", e, api.OK)
	return s
}

func TestExample(t *testing.T) {
	s := example(t)
	d, e := Domains(s)
	want(t, "Domains", []any{d, e}, []any{[][]int{{}, {}, {0}, {0}, {0}, {}, {0, 1}, {0, 1}}, api.OK})
	v, e := Variables(s)
	want(t, "Variables", []any{v, e}, []any{[][2]int{{2, 0}, {3, 0}, {4, 0}, {6, 0}, {6, 1}, {7, 0}, {7, 1}}, api.OK})
	c, e := Encode(s)
	want(t, "Encode", []any{c, e}, []any{api.Clauses{Vars: 7, List: [][]int{{1}, {2}, {3}, {4, 5}, {6, 7}, {-1, -5}, {-5, -6}, {-4, -7}}}, api.OK})
	l, e := Force(s, 0, 1)
	want(t, "Force", []any{l, e}, []any{[][]int{{}, {}, {7}}, api.OK})
	l, _ = Force(s, 6, 0)
	want(t, "Force", l, [][]int{{4}})
	r := api.Rule{Out: []int{-1, -1, 0, 0, 0, -1, 0, 0}}
	m, e := Model(s, r)
	want(t, "Model", []any{m, e}, []any{[]int{1, 2, 3, 4, -5, 6, -7}, api.OK})
	back, e := Decode(s, m)
	want(t, "Decode", []any{back, e}, []any{r, api.OK})
	back, _ = Decode(s, []int{1, 2, 3, -4, 5, 6, 7})
	want(t, "Decode", back.Out, []int{-1, -1, 0, 0, 0, -1, 1, 0})
}

func TestErrors(t *testing.T) {
	s := example(t)
	bad := s
	bad.Executions = nil
	big, _ := library.SetAgreement(4, 4, 4)
	a := api.Adversary{N: 4, States: [][]api.Move{nil}}
	for j := range 4 {
		m := api.Move{Round: api.Round{Graph: api.Graph{N: 4, Hears: [5]int{15, 15, 15, 15}}}}
		for p := range 4 {
			if j > 0 {
				m.Round.Graph.Hears[p] &^= 1 << ((p + j) % 4)
			}
		}
		a.States[0] = append(a.States[0], m)
	}
	slices.SortFunc(a.States[0], func(x, y api.Move) int { return slices.Compare(x.Round.Graph.Hears[:], y.Round.Graph.Hears[:]) })
	many, e := execution.Build(api.Problem{Task: big, Adversary: a, Rounds: 1})
	want(t, "Build", e, api.OK)
	for _, x := range []struct {
		s api.System
		e api.Errno
	}{{bad, api.ErrForm}, {many, api.ErrLimit}} {
		_, e := Domains(x.s)
		want(t, "Domains", e, x.e)
		_, e = Variables(x.s)
		want(t, "Variables", e, x.e)
		_, e = Encode(x.s)
		want(t, "Encode", e, x.e)
		_, e = Force(x.s, -1, -1)
		want(t, "Force", e, x.e)
		_, e = Decode(x.s, nil)
		want(t, "Decode", e, x.e)
		_, e = Model(x.s, api.Rule{})
		want(t, "Model", e, x.e)
	}
	for _, x := range []struct {
		view, value int
		e           api.Errno
	}{{-1, 9, api.ErrNone}, {8, 0, api.ErrNone}, {0, -1, api.ErrRange}, {0, 2, api.ErrRange}} {
		_, e := Force(s, x.view, x.value)
		want(t, "Force", e, x.e)
	}
	for _, x := range []struct {
		model []int
		e     api.Errno
	}{{nil, api.ErrShape}, {[]int{1, 2, 3, 4, 5, 6, 8}, api.ErrForm}, {[]int{1, 2, 3, -4, -5, 6, 0}, api.ErrForm}, {[]int{1, 2, 3, -4, -5, 6, 7}, api.ErrGap}} {
		_, e := Decode(s, x.model)
		want(t, "Decode", e, x.e)
	}
	for _, x := range []struct {
		out []int
		e   api.Errno
	}{{nil, api.ErrShape}, {[]int{9, 9, 0, 0, 0, 9, 0, 0}, api.OK}, {[]int{0, 0, 1, 0, 0, 0, 0, 0}, api.ErrRange}, {[]int{0, 0, 0, 0, 0, 0, -1, 0}, api.ErrRange}} {
		_, e := Model(s, api.Rule{Out: x.out})
		want(t, "Model", e, x.e)
	}
}

func TestConsequences(t *testing.T) {
	consensus, _ := library.Consensus(2, 2)
	commit, _ := library.Commit(2)
	approximate, _ := library.Approximate(2, 2)
	crash, _ := failure.Crash(2, 1)
	for _, c := range []api.Task{consensus, commit, approximate} {
		for rounds := range 2 {
			s, _ := execution.Build(api.Problem{Task: c, Adversary: crash, Rounds: rounds})
			x, e := Encode(s)
			want(t, "Encode", []any{e, clauses.Check(x)}, []any{api.OK, api.OK})
			domains, _ := Domains(s)
			relevant, _ := execution.Relevant(s)
			// All choices of values of the domains.
			total, solving := 1, 0
			for _, v := range relevant {
				total *= len(domains[v])
			}
			for code := range total {
				r := api.Rule{Out: slices.Repeat([]int{-1}, len(s.Table.Views))}
				rest := code
				for _, v := range relevant {
					r.Out[v] = domains[v][rest%len(domains[v])]
					rest /= len(domains[v])
				}
				model, _ := Model(s, r)
				_, ok, _ := clauses.Eval(x, model)
				permitted := true
				for e, y := range s.Executions {
					obliged, _ := execution.Obliged(s, e)
					outs := []int{r.Out[y.Views[rounds][0]], r.Out[y.Views[rounds][1]]}
					good, _ := task.Permitted(c, y.Case, 3&^obliged, outs)
					permitted = permitted && good
				}
				if ok != permitted {
					t.Fatalf("choice %d of %d: %v", code, total, ok)
				}
				back, _ := Decode(s, model)
				want(t, "Decode", back, r)
				if ok {
					solving++
				}
				if code > 3000 {
					solving = -1
					break
				}
			}
			verdict, model, _, _ := solver.Solve(x)
			if solving >= 0 {
				want(t, "Solve", verdict == api.VerdictYes, solving > 0)
			}
			if verdict == api.VerdictYes {
				_, e := Decode(s, model)
				want(t, "Decode", e, api.OK)
			}
		}
	}
}
