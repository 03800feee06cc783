package average

import (
	"fmt"
	"testing"

	"roundtable/api"
	"roundtable/encode"
	"roundtable/execution"
	"roundtable/failure"
	"roundtable/library"
	"roundtable/optimal"
	"roundtable/rule"
	"roundtable/task"
	"roundtable/verified"
)

func want(t *testing.T, what string, got, wanted any) {
	t.Helper()
	if fmt.Sprint(got) != fmt.Sprint(wanted) {
		t.Errorf("%s: got %v, want %v", what, got, wanted)
	}
}

// consensus returns the consensus of 2 processes in a round under some graphs.
func consensus(graphs ...[2]int) api.Problem {
	c, _ := library.Consensus(2, 2)
	a := api.Adversary{N: 2, States: [][]api.Move{nil}}
	for _, g := range graphs {
		a.States[0] = append(a.States[0], api.Move{Round: api.Round{Graph: api.Graph{N: 2, Hears: [5]int{g[0], g[1]}}}})
	}
	return api.Problem{Task: c, Adversary: a, Rounds: 1}
}

func TestExamples(t *testing.T) {
	p := consensus([2]int{3, 3})
	for _, f := range []func(api.Problem) (api.Report, api.Errno){Least, Worst} {
		r, e := f(p)
		want(t, "report", []any{r.Worst, r.Total, r.Optimal, e}, []any{1, 4, false, api.OK})
	}
	w, total, e := Bound(p)
	want(t, "Bound", []any{w, total, e}, []any{0, 0, api.OK})
	p.Task, _ = task.Restrict(p.Task, []int{0, 1})
	r, e := Least(p)
	want(t, "Least", []any{r.Worst, r.Total, r.Optimal, e}, []any{0, 0, true, api.OK})
}

func TestErrors(t *testing.T) {
	lossy := consensus([2]int{1, 3}, [2]int{3, 2}, [2]int{3, 3})
	wrong := lossy
	wrong.Rounds = 7
	big, _ := library.SetAgreement(4, 3, 4)
	crash, _ := failure.Crash(4, 1)
	for i, x := range []struct {
		p api.Problem
		e api.Errno
	}{{lossy, api.ErrNone}, {wrong, api.ErrRange}, {api.Problem{Task: big, Adversary: crash, Rounds: 1}, api.ErrLimit}} {
		_, e := Least(x.p)
		want(t, fmt.Sprint("Least ", i), e, x.e)
		_, e = Worst(x.p)
		want(t, fmt.Sprint("Worst ", i), e, x.e)
		if x.e != api.ErrLimit {
			_, _, e = Bound(x.p)
			want(t, fmt.Sprint("Bound ", i), e, x.e)
		}
	}
}

func TestConsequences(t *testing.T) {
	crash, _ := failure.Crash(2, 1)
	snapshot, _ := failure.Snapshot(2)
	send, _ := failure.Send(2, 1)
	two, _ := library.Consensus(2, 2)
	approximate, _ := library.Approximate(2, 3)
	commit, _ := library.Commit(2)
	for i, p := range []api.Problem{consensus([2]int{3, 3}), consensus([2]int{1, 3}, [2]int{3, 3}), {Task: commit, Adversary: crash, Rounds: 2}, {Task: two, Adversary: crash, Rounds: 2}, {Task: approximate, Adversary: snapshot, Rounds: 1}, {Task: commit, Adversary: send, Rounds: 1}} {
		s, _ := execution.Build(p)
		domains, _ := encode.Domains(s)
		least, worst := [2]int{1 << 30, 0}, [2]int{1 << 30, 0}
		for values := range verified.Solutions(s, domains) {
			r, _ := rule.Early(s, api.Rule{Out: values})
			w, total, _ := rule.Measure(s, r)
			if total < least[0] || total == least[0] && w < least[1] {
				least = [2]int{total, w}
			}
			if w < worst[0] || w == worst[0] && total < worst[1] {
				worst = [2]int{w, total}
			}
		}
		a, e := Least(p)
		b, _ := Worst(p)
		best, _, _ := optimal.Optimal(p)
		want(t, fmt.Sprint("Least ", i), []any{a.Total, a.Worst, e}, []any{least[0], least[1], api.OK})
		want(t, fmt.Sprint("Worst ", i), []int{b.Worst, b.Total}, worst)
		w, total, e := Bound(p)
		want(t, "Bound", []any{w <= b.Worst, total <= a.Total, e}, []any{true, true, api.OK})
		for _, x := range []api.Report{a, b} {
			ok, _, _ := rule.Solves(s, x.Rule)
			m, n, _ := rule.Measure(s, x.Rule)
			early, _ := rule.Early(s, x.Rule)
			want(t, "rule", []any{ok, m, n, early, x.Optimal}, []any{true, x.Worst, x.Total, x.Rule, best.Optimal})
			if best.Optimal {
				want(t, "optimal", []int{x.Worst, x.Total, w, total}, []int{best.Worst, best.Total, best.Worst, best.Total})
			}
		}
	}
}
