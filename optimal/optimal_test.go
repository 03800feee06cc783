package optimal

import (
	"fmt"
	"slices"
	"testing"

	"roundtable/api"
	"roundtable/encode"
	"roundtable/execution"
	"roundtable/failure"
	"roundtable/library"
	"roundtable/refute"
	"roundtable/rule"
	"roundtable/task"
	"roundtable/verified"
)

func want(t *testing.T, what string, got, wanted any) {
	t.Helper()
	if fmt.Sprint(got) != fmt.Sprint(wanted) {
		t.Errorf("%s: got %v, want %v", what, got, wanted)
	}
}

// consensus returns the consensus of 2 processes in a round under some graphs.
func consensus(graphs ...[2]int) api.Problem {
	c, _ := library.Consensus(2, 2)
	a := api.Adversary{N: 2, States: [][]api.Move{nil}}
	for _, g := range graphs {
		a.States[0] = append(a.States[0], api.Move{Round: api.Round{Graph: api.Graph{N: 2, Hears: [5]int{g[0], g[1]}}}})
	}
	return api.Problem{Task: c, Adversary: a, Rounds: 1}
}

func TestExamples(t *testing.T) {
	p := consensus([2]int{3, 3})
	s, _ := execution.Build(p)
	for view := range 4 {
		v := s.Table.Views[view]
		if v.Round > 0 {
			continue
		}
		for value := range 2 {
			ok, proof, e := Can(s, view, value)
			want(t, "Can", []any{ok, e}, []any{value == v.Input, api.OK})
			if !ok {
				c, _ := encode.Encode(s)
				force, _ := encode.Force(s, view, value)
				c.List = append(c.List, force...)
				_, e = refute.Verify(c, proof)
				want(t, "refutation", e, api.OK)
			}
		}
	}
	r, l, e := Optimal(p)
	want(t, "Optimal", []any{r.Optimal, r.Worst, len(l), e}, []any{false, 1, 0, api.OK})
	f, e := Floor(s)
	relevant, _ := execution.Relevant(s)
	for view, k := range f {
		want(t, "Floor", k, -1+map[bool]int{true: 1}[slices.Contains(relevant, view)])
	}
	want(t, "Floor", e, api.OK)
	p.Task, _ = task.Restrict(p.Task, []int{0, 1})
	r, l, e = Optimal(p)
	want(t, "Optimal", []any{r.Optimal, r.Worst, r.Total, len(l), e}, []any{true, 0, 0, 0, api.OK})
	want(t, "Optimal", []any{slices.Max(r.Rule.Out), Verify(p, r.Rule, l)}, []any{0, api.OK})
	// Process 1 always hears process 0.
	half := consensus([2]int{1, 3}, [2]int{3, 3})
	r, l, e = Optimal(half)
	want(t, "Optimal", []any{r.Optimal, r.Worst, r.Total, e, Verify(half, r.Rule, l)}, []any{true, 1, 8, api.OK, api.OK})
	want(t, "denials", len(l), 4)
}

func TestErrors(t *testing.T) {
	p := consensus([2]int{1, 3}, [2]int{3, 3})
	s, _ := execution.Build(p)
	bad := s
	bad.Executions = nil
	_, _, e := Can(bad, 99, 99)
	want(t, "Can", e, api.ErrForm)
	_, e = Floor(bad)
	want(t, "Floor", e, api.ErrForm)
	for _, x := range []struct {
		view, value int
		e           api.Errno
	}{{-1, 9, api.ErrNone}, {len(s.Table.Views), 0, api.ErrNone}, {0, 2, api.ErrRange}, {0, -1, api.ErrRange}} {
		_, _, e = Can(s, x.view, x.value)
		want(t, "Can", e, x.e)
	}
	faulty := consensus([2]int{3, 3})
	faulty.Adversary.States[0][0].Round.Faulty = 2
	y, _ := execution.Build(faulty)
	closed := 0
	for view, finals := range verified.Continuing(y) {
		if len(finals) == 0 {
			closed++
			_, _, e = Can(y, view, 0)
			want(t, "Can", e, api.ErrEmpty)
		}
	}
	want(t, "closed views", closed, 6)
	lossy := consensus([2]int{1, 3}, [2]int{3, 2}, [2]int{3, 3})
	z, _ := execution.Build(lossy)
	_, e = Floor(z)
	want(t, "Floor", e, api.ErrNone)
	_, _, e = Optimal(lossy)
	want(t, "Optimal", e, api.ErrNone)
	ok, proof, e := Can(z, 0, 0)
	want(t, "Can", []any{ok, len(proof) > 0, e}, []any{false, true, api.OK})
	wrong := p
	wrong.Rounds = 7
	_, _, e = Optimal(wrong)
	want(t, "Optimal", e, api.ErrRange)
	want(t, "Verify", Verify(wrong, api.Rule{}, nil), api.ErrRange)
	r, l, _ := Optimal(p)
	zero := api.Rule{Out: make([]int, len(s.Table.Views))}
	for i, x := range []struct {
		r api.Rule
		l []Denial
		e api.Errno
	}{
		{api.Rule{}, nil, api.ErrShape}, {zero, l, api.ErrProof}, {r.Rule, l[1:], api.ErrShape}, {r.Rule, append(slices.Clone(l), l[0]), api.ErrShape}, {r.Rule, []Denial{l[1], l[0], l[2], l[3]}, api.ErrOrder}, {r.Rule, []Denial{l[0], {l[1].View, l[1].Value, nil}, l[2], l[3]}, api.ErrProof}, {r.Rule, []Denial{l[0], {l[1].View, l[1].Value, [][]int{{0}}}, {}, l[3]}, api.ErrRange}, {r.Rule, l, api.OK},
	} {
		want(t, fmt.Sprint("Verify ", i), Verify(p, x.r, x.l), x.e)
	}
}

// best returns for each view whether some solution decides there, and whether one solution decides at all of these.
func best(s api.System) (map[[2]int]bool, bool) {
	domains, _ := encode.Domains(s)
	can := map[[2]int]bool{}
	anywhere := map[int]bool{}
	var rules [][]int
	for values := range verified.Solutions(s, domains) {
		r, _ := rule.Early(s, api.Rule{Out: values})
		rules = append(rules, r.Out)
		for view, value := range r.Out {
			if value >= 0 {
				can[[2]int{view, value}] = true
				anywhere[view] = true
			}
		}
	}
	for _, out := range rules {
		all := true
		for view := range anywhere {
			all = all && out[view] >= 0
		}
		if all {
			return can, true
		}
	}
	return can, false
}

func TestConsequences(t *testing.T) {
	crash, _ := failure.Crash(2, 1)
	snapshot, _ := failure.Snapshot(2)
	send, _ := failure.Send(2, 1)
	two, _ := library.Consensus(2, 2)
	approximate, _ := library.Approximate(2, 3)
	commit, _ := library.Commit(2)
	optimal := 0
	for i, p := range []api.Problem{consensus([2]int{3, 3}), consensus([2]int{1, 3}, [2]int{3, 3}), {Task: commit, Adversary: crash, Rounds: 2}, {Task: two, Adversary: crash, Rounds: 2}, {Task: approximate, Adversary: snapshot, Rounds: 1}, {Task: commit, Adversary: send, Rounds: 1}, {Task: two, Adversary: send, Rounds: 2}} {
		s, _ := execution.Build(p)
		r, l, e := Optimal(p)
		can, is := best(s)
		want(t, fmt.Sprint("Optimal ", i), []any{e == api.ErrNone, r.Optimal}, []any{len(can) == 0, is})
		if e != api.OK {
			continue
		}
		solves, _, _ := rule.Solves(s, r.Rule)
		worst, total, _ := rule.Measure(s, r.Rule)
		want(t, "rule", []any{solves, worst, total}, []any{true, r.Worst, r.Total})
		if r.Optimal {
			optimal++
			want(t, "Verify", Verify(p, r.Rule, l), api.OK)
			domains, _ := encode.Domains(s)
			for values := range verified.Solutions(s, domains) {
				other, _ := rule.Early(s, api.Rule{Out: values})
				ok, _ := rule.Earlier(s, r.Rule, other)
				want(t, "Earlier", ok, true)
			}
		}
		floor, e := Floor(s)
		want(t, "Floor", e, api.OK)
		relevant, _ := execution.Relevant(s)
		for _, final := range relevant {
			least := -1
			for view := final; view >= 0; view = verified.Own(s.Table, view) {
				if can[[2]int{view, 0}] || can[[2]int{view, 1}] || can[[2]int{view, 2}] || can[[2]int{view, 3}] {
					least = s.Table.Views[view].Round
				}
			}
			want(t, "Floor", floor[final], least)
		}
		for view, finals := range verified.Continuing(s) {
			if len(finals) > 0 {
				ok, _, e := Can(s, view, view%2)
				want(t, "Can", []any{ok, e}, []any{can[[2]int{view, view % 2}], api.OK})
			}
		}
	}
	want(t, "optimal", optimal > 1, true)
}
