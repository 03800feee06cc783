package monitor

import (
	"fmt"
	"testing"

	"roundtable/api"
	"roundtable/decide"
	"roundtable/execution"
	"roundtable/failure"
	"roundtable/library"
	"roundtable/machine"
	"roundtable/rule"
	"roundtable/simulate"
)

func want(t *testing.T, what string, got, wanted any) {
	t.Helper()
	if fmt.Sprint(got) != fmt.Sprint(wanted) {
		t.Errorf("%s: got %v, want %v", what, got, wanted)
	}
}

func letter(faulty, a, b int) api.Round {
	return api.Round{Graph: api.Graph{N: 2, Hears: [5]int{a, b}}, Faulty: faulty}
}

func problem() api.Problem {
	c, _ := library.Consensus(2, 2)
	return api.Problem{Task: c, Adversary: api.Adversary{N: 2, States: [][]api.Move{{{Round: letter(0, 1, 3)}, {Round: letter(0, 3, 3)}}}}, Rounds: 1}
}

func TestExamples(t *testing.T) {
	p := problem()
	half := []api.Round{letter(0, 1, 3)}
	for i, x := range []struct {
		in    []int
		word  []api.Round
		out   []int
		kind  int
		blame int
	}{
		{[]int{0, 1}, half, []int{0, 0}, api.ViolationNone, -1}, {[]int{0, 1}, half, []int{0, 1}, api.ViolationOutput, 1}, {[]int{0, 1}, half, []int{0, -1}, api.ViolationUndecided, 1}, {[]int{0, 0}, half, []int{1, 1}, api.ViolationOutput, 0}, {[]int{0, 1}, []api.Round{letter(0, 3, 2)}, []int{-1, -1}, api.ViolationSchedule, -1}, {[]int{0, 1}, nil, []int{0, 0}, api.ViolationSchedule, -1},
		{[]int{0, 1}, []api.Round{{Faulty: 99}}, []int{0, 0}, api.ViolationSchedule, -1}, {[]int{0, 1}, append(half, half...), []int{0, 0}, api.ViolationSchedule, -1}, {[]int{0, 1}, half, []int{-1, -1}, api.ViolationUndecided, 0},
	} {
		kind, blame, e := Blame(p, x.in, x.word, x.out)
		want(t, fmt.Sprint("Blame ", i), []any{kind, blame, e}, []any{x.kind, x.blame, api.OK})
	}
	for kind, word := range []string{"none", "schedule", "undecided", "output", "trace"} {
		s, e := Word(kind)
		want(t, "Word", []any{s, e}, []any{word, api.OK})
	}
	for _, kind := range []int{-1, 5} {
		_, e := Word(kind)
		want(t, "Word", e, api.ErrArg)
	}
	crash, _ := failure.Crash(2, 2)
	p.Adversary = crash
	kind, blame, _ := Blame(p, []int{0, 1}, []api.Round{letter(1, 1, 3)}, []int{-1, 1})
	want(t, "faulty", []int{kind, blame}, []int{api.ViolationNone, -1})
	kind, _, _ = Blame(p, []int{0, 1}, []api.Round{letter(3, 1, 2)}, []int{-1, -1})
	want(t, "all faulty", kind, api.ViolationNone)
}

func TestErrors(t *testing.T) {
	p := problem()
	bad := p
	bad.Rounds = 7
	for _, x := range []struct {
		p       api.Problem
		in, out []int
		e       api.Errno
	}{{bad, nil, nil, api.ErrRange}, {p, []int{0}, nil, api.ErrNone}, {p, []int{0, 2}, nil, api.ErrNone}, {p, []int{0, 0}, []int{0}, api.ErrShape}, {p, []int{0, 0}, []int{0, 2}, api.ErrRange}, {p, []int{0, 0}, []int{-2, 0}, api.ErrRange}} {
		_, _, e := Blame(x.p, x.in, nil, x.out)
		want(t, "Blame", e, x.e)
	}
	_, r, _, _ := decide.Decide(p)
	s, _ := execution.Build(p)
	m, _ := machine.Synthesize(s, r)
	good, _ := simulate.Run(m, []int{0, 1}, s.Executions[0].Word)
	other := m
	other.Outs = 3
	alone := good
	alone.Inputs = []int{7, 1}
	for i, x := range []struct {
		p api.Problem
		m api.Machine
		t api.Trace
		e api.Errno
	}{{bad, api.Machine{}, api.Trace{}, api.ErrRange}, {p, api.Machine{N: 1}, api.Trace{}, api.ErrRange}, {p, other, api.Trace{}, api.ErrMismatch}, {p, m, api.Trace{Inputs: []int{0}}, api.ErrShape}, {p, m, alone, api.ErrNone}, {p, m, good, api.OK}} {
		_, e := Verdict(x.p, x.m, x.t)
		want(t, fmt.Sprint("Verdict ", i), e, x.e)
	}
}

func TestVerdicts(t *testing.T) {
	p := problem()
	_, r, _, _ := decide.Decide(p)
	s, _ := execution.Build(p)
	m, _ := machine.Synthesize(s, r)
	for i, x := range []struct {
		change func(y *api.Trace)
		kind   int
	}{
		{func(y *api.Trace) {}, api.ViolationNone}, {func(y *api.Trace) { y.Word[0] = letter(2, 3, 3) }, api.ViolationSchedule}, {func(y *api.Trace) { y.Decisions[1], y.Times[1] = -1, -1; y.States[0][0] = 9 }, api.ViolationUndecided}, {func(y *api.Trace) { y.Decisions[1] = 1 - y.Decisions[1] }, api.ViolationOutput}, {func(y *api.Trace) { y.Decisions[1] = 7 }, api.ViolationOutput}, {func(y *api.Trace) { y.States[0][0] = 9 }, api.ViolationTrace}, {func(y *api.Trace) { y.Times[0] = 1 - y.Times[0] }, api.ViolationTrace},
	} {
		y, e := simulate.Run(m, []int{0, 1}, []api.Round{letter(0, 3, 3)})
		want(t, "Run", e, api.OK)
		x.change(&y)
		kind, e := Verdict(p, m, y)
		want(t, fmt.Sprint("Verdict ", i), []any{kind, e}, []any{x.kind, api.OK})
	}
}

func TestConsequences(t *testing.T) {
	c, _ := library.Consensus(3, 2)
	crash, _ := failure.Crash(3, 1)
	p := api.Problem{Task: c, Adversary: crash, Rounds: 2}
	s, _ := execution.Build(p)
	_, r, _, _ := decide.Decide(p)
	wrong := api.Rule{Out: make([]int, len(s.Table.Views))}
	for _, x := range []api.Rule{r, wrong} {
		m, _ := machine.Synthesize(s, x)
		failing := -1
		for i := 0; i < len(s.Executions); i += 3 {
			y := s.Executions[i]
			trace, _ := simulate.Run(m, c.Cases[y.Case].In, y.Word)
			kind, e := Verdict(p, m, trace)
			want(t, "Verdict", e, api.OK)
			blamed, who, _ := Blame(p, trace.Inputs, trace.Word, trace.Decisions)
			want(t, "Blame", []any{blamed, who >= 0}, []any{kind, kind != api.ViolationNone})
			if kind != api.ViolationNone && failing < 0 {
				failing = i
			}
		}
		solves, _, _ := rule.Solves(s, x)
		want(t, "Solves", failing < 0, solves)
	}
}
