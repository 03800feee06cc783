package search

import (
	"fmt"
	"slices"
	"testing"

	"roundtable/api"
	"roundtable/decide"
	"roundtable/execution"
	"roundtable/failure"
	"roundtable/graph"
	"roundtable/library"
	"roundtable/machine"
	"roundtable/monitor"
	"roundtable/rule"
	"roundtable/simulate"
	"roundtable/task"
	"roundtable/views"
)

func want(t *testing.T, what string, got, wanted any) {
	t.Helper()
	if fmt.Sprint(got) != fmt.Sprint(wanted) {
		t.Errorf("%s: got %v, want %v", what, got, wanted)
	}
}

func letter(a, b int) api.Round { return api.Round{Graph: api.Graph{N: 2, Hears: [5]int{a, b}}} }

// leastMachine returns the machine of a system in which each process decides the least input that it knows, after the last round.
func leastMachine(t *testing.T, s api.System) (api.Machine, api.Rule) {
	t.Helper()
	r := api.Rule{Out: slices.Repeat([]int{-1}, len(s.Table.Views))}
	for i, v := range s.Table.Views {
		if v.Round == s.Problem.Rounds {
			inputs, _ := views.Inputs(s.Table, i)
			inputs = slices.DeleteFunc(inputs, func(x int) bool { return x < 0 })
			r.Out[i] = slices.Min(inputs)
		}
	}
	m, e := machine.Synthesize(s, r)
	want(t, "Synthesize", e, api.OK)
	return m, r
}

func example(t *testing.T) (api.Problem, api.Machine) {
	t.Helper()
	c, _ := library.Consensus(2, 2)
	p := api.Problem{Task: c, Adversary: api.Adversary{N: 2, States: [][]api.Move{{{Round: letter(1, 3)}, {Round: letter(3, 2)}, {Round: letter(3, 3)}}}}, Rounds: 1}
	s, _ := execution.Build(p)
	m, _ := leastMachine(t, s)
	return p, m
}

func TestExamples(t *testing.T) {
	p, m := example(t)
	x, kind, ok, e := Violation(p, m)
	want(t, "Violation", []any{x.Inputs, x.Word, kind, ok, e}, []any{[]int{0, 1}, []api.Round{letter(3, 2)}, api.ViolationOutput, true, api.OK})
	l, e := Neighbors(p, Play{[]int{1, 0}, []api.Round{letter(1, 3)}})
	want(t, "Neighbors", []any{l, e}, []any{[]Play{{[]int{1, 0}, []api.Round{letter(3, 3)}}, {[]int{0, 0}, []api.Round{letter(1, 3)}}}, api.OK})
	play := Play{[]int{0, 1}, []api.Round{letter(3, 2)}}
	ok, e = Minimal(p, m, play)
	want(t, "Minimal", []any{ok, e}, []any{true, api.OK})
	y, e := Shrink(p, m, play)
	want(t, "Shrink", []any{y, e}, []any{play, api.OK})
	x, time, e := Worst(p, m)
	want(t, "Worst", []any{x.Inputs, x.Word, time, e}, []any{[]int{0, 0}, []api.Round{letter(1, 3)}, 1, api.OK})
	good := p
	good.Adversary = api.Adversary{N: 2, States: [][]api.Move{{{Round: letter(3, 3)}}}}
	x, kind, ok, e = Violation(good, m)
	want(t, "Violation", []any{len(x.Inputs), kind, ok, e}, []any{0, api.ViolationNone, false, api.OK})
}

func TestNoRounds(t *testing.T) {
	c, _ := library.Consensus(2, 3)
	a, _ := failure.Crash(2, 0)
	p := api.Problem{Task: c, Adversary: a}
	s, _ := execution.Build(p)
	m, _ := leastMachine(t, s)
	for _, x := range [][2][]int{{{1, 2}, {0, 1}}, {{2, 1}, {0, 1}}, {{2, 0}, {1, 0}}, {{0, 1}, {0, 1}}} {
		y, e := Shrink(p, m, Play{Inputs: x[0]})
		want(t, fmt.Sprint("Shrink ", x[0]), []any{y.Inputs, len(y.Word), e}, []any{x[1], 0, api.OK})
	}
	_, e := Shrink(p, m, Play{Inputs: []int{1, 1}})
	want(t, "Shrink", e, api.ErrState)
}

func TestErrors(t *testing.T) {
	p, m := example(t)
	bad := p
	bad.Rounds = 7
	other := m
	other.Outs = 3
	violation := Play{[]int{0, 1}, []api.Round{letter(3, 2)}}
	for i, x := range []struct {
		p api.Problem
		m api.Machine
		e api.Errno
	}{{bad, api.Machine{}, api.ErrRange}, {p, api.Machine{N: 9}, api.ErrRange}, {p, other, api.ErrMismatch}} {
		_, _, e := Worst(x.p, x.m)
		want(t, fmt.Sprint("Worst ", i), e, x.e)
		_, _, _, e = Violation(x.p, x.m)
		want(t, "Violation", e, x.e)
		_, e = Shrink(x.p, x.m, Play{})
		want(t, "Shrink", e, x.e)
		_, e = Minimal(x.p, x.m, Play{})
		want(t, "Minimal", e, x.e)
	}
	_, e := Neighbors(bad, Play{})
	want(t, "Neighbors", e, api.ErrRange)
	for i, x := range []struct {
		x Play
		e api.Errno
	}{{Play{[]int{0}, nil}, api.ErrNone}, {Play{[]int{0, 2}, nil}, api.ErrNone}, {Play{[]int{0, 1}, nil}, api.ErrSchedule}, {Play{[]int{0, 1}, []api.Round{letter(1, 2)}}, api.ErrSchedule}, {Play{[]int{0, 1}, []api.Round{{}}}, api.ErrSchedule}, {Play{[]int{0, 1}, []api.Round{letter(3, 3)}}, api.ErrState}, {violation, api.OK}} {
		_, e := Shrink(p, m, x.x)
		want(t, fmt.Sprint("Shrink ", i), e, x.e)
		_, e = Minimal(p, m, x.x)
		want(t, fmt.Sprint("Minimal ", i), e, x.e)
		_, e = Neighbors(p, x.x)
		if x.e != api.ErrState {
			want(t, fmt.Sprint("Neighbors ", i), e, x.e)
		}
	}
	gap := m
	gap.Steps = m.Steps[1:]
	_, _, e = Worst(p, gap)
	want(t, "Worst", e, api.ErrGap)
	_, _, ok, e := Violation(p, gap)
	want(t, "Violation", []any{ok, e}, []any{true, api.OK})
	many := p
	many.Rounds = 6
	many.Adversary = api.Adversary{N: 2, States: [][]api.Move{{{Round: letter(1, 2)}, {Round: letter(1, 3)}, {Round: letter(3, 2)}, {Round: letter(3, 3)}}}}
	long := api.Machine{N: 2, Rounds: 6, Ins: 2, Outs: 2, First: [][]int{{-1, -1}, {-1, -1}}}
	for range 7 {
		long.Out = append(long.Out, make([][]int, 2))
	}
	for range 6 {
		long.Symbols = append(long.Symbols, [][][]int{{nil, nil}, {nil, nil}})
	}
	_, _, e = Worst(many, long)
	want(t, "Worst", e, api.ErrLimit)
	_, _, _, e = Violation(many, long)
	want(t, "Violation", e, api.ErrLimit)
	// A machine that never decides.
	silent := m
	silent.Out = [][][]int{{slices.Repeat([]int{-1}, len(m.Out[0][0])), slices.Repeat([]int{-1}, len(m.Out[0][1]))}, {slices.Repeat([]int{-1}, len(m.Out[1][0])), slices.Repeat([]int{-1}, len(m.Out[1][1]))}}
	x, time, e := Worst(p, silent)
	want(t, "Worst", []any{x.Inputs, time, e}, []any{[]int{0, 0}, 2, api.OK})
	_, kind, _, _ := Violation(p, silent)
	want(t, "Violation", kind, api.ViolationUndecided)
}

func TestConsequences(t *testing.T) {
	consensus, _ := library.Consensus(3, 2)
	two, _ := library.Consensus(2, 2)
	crash, _ := failure.Crash(3, 1)
	crash2, _ := failure.Crash(2, 1)
	send, _ := failure.Send(2, 1)
	for _, p := range []api.Problem{{Task: consensus, Adversary: crash, Rounds: 1}, {Task: two, Adversary: crash2, Rounds: 2}, {Task: two, Adversary: send, Rounds: 2}} {
		s, _ := execution.Build(p)
		m, r := leastMachine(t, s)
		_, time, e := Worst(p, m)
		want(t, "Worst", []any{time, e}, []any{p.Rounds, api.OK})
		solves, i, _ := rule.Solves(s, r)
		x, kind, ok, _ := Violation(p, m)
		want(t, "Violation", ok, !solves)
		if verdict, decided, _, _ := decide.Decide(p); verdict == api.VerdictYes {
			right, _ := machine.Synthesize(s, decided)
			_, _, ok, _ := Violation(p, right)
			worst, _, _ := rule.Measure(s, decided)
			_, time, _ := Worst(p, right)
			want(t, "right machine", []any{ok, time}, []any{false, worst})
		}
		if !ok {
			continue
		}
		want(t, "first violation", []any{x.Inputs, x.Word}, []any{p.Task.Cases[s.Executions[i].Case].In, s.Executions[i].Word})
		judged, _ := monitor.Verdict(p, m, x)
		want(t, "Verdict", kind, judged)
		shrunk := 0
		for e, y := range s.Executions {
			play := Play{verifiedInputs(s, e), y.Word}
			small, err := Shrink(p, m, play)
			if err == api.ErrState {
				continue
			}
			shrunk++
			minimal, e := Minimal(p, m, small)
			want(t, "Shrink", []any{err, minimal, e}, []any{api.OK, true, api.OK})
			for k := range small.Word {
				inside, _ := graph.Inside(y.Word[k].Graph, small.Word[k].Graph)
				want(t, "edges", inside && small.Word[k].Faulty&^y.Word[k].Faulty == 0, true)
			}
			for q := range small.Inputs {
				want(t, "inputs", small.Inputs[q] <= play.Inputs[q], true)
			}
			trace, _ := simulate.Run(m, small.Inputs, small.Word)
			judged, _ := monitor.Verdict(p, m, trace)
			want(t, "violation", judged != api.ViolationNone, true)
			l, _ := Neighbors(p, play)
			for _, z := range l {
				_, e := task.Find(p.Task, z.Inputs)
				want(t, "right", e, api.OK)
			}
		}
		want(t, "violations", shrunk > 0, true)
	}
}

func verifiedInputs(s api.System, e int) []int { return s.Problem.Task.Cases[s.Executions[e].Case].In }
