package machine

import (
	"fmt"
	"slices"
	"testing"

	"roundtable/api"
	"roundtable/decide"
	"roundtable/execution"
	"roundtable/failure"
	"roundtable/library"
	"roundtable/optimal"
	"roundtable/task"
)

func want(t *testing.T, what string, got, wanted any) {
	t.Helper()
	if fmt.Sprint(got) != fmt.Sprint(wanted) {
		t.Errorf("%s: got %v, want %v", what, got, wanted)
	}
}

func example(t *testing.T) (api.System, api.Rule) {
	t.Helper()
	c, _ := library.Consensus(2, 2)
	c, _ = task.Restrict(c, []int{0, 1})
	move := func(row int) api.Move {
		return api.Move{Round: api.Round{Graph: api.Graph{N: 2, Hears: [5]int{row, 3}}}}
	}
	s, e := execution.Build(api.Problem{Task: c, Adversary: api.Adversary{N: 2, States: [][]api.Move{{move(1), move(3)}}}, Rounds: 1})
	want(t, "Build", e, api.OK)
	return s, api.Rule{Out: []int{-1, -1, -1, -1, -1, -1, 1, -1}}
}

func made(t *testing.T) api.Machine {
	t.Helper()
	s, r := example(t)
	m, e := Synthesize(s, r)
	want(t, "Synthesize", e, api.OK)
	return m
}

func TestExamples(t *testing.T) {
	m := made(t)
	none := [5]int{-1, -1, -1, -1, -1}
	heard := func(l ...int) [5]int {
		h := none
		copy(h[:], l)
		return h
	}
	wanted := api.Machine{N: 2, Rounds: 1, Ins: 2, Outs: 2, First: [][]int{{0, -1}, {0, 1}}, Symbols: [][][][]int{{{{}, {0}}, {{0, 0}, {}}}},
		Steps: []api.Step{{Heard: heard(0, -1)}, {Heard: heard(0, 0)}, {Proc: 1, Heard: heard(0, 0)}, {Proc: 1, Heard: heard(0, 1), To: 1}}, Out: [][][]int{{{-1}, {-1, -1}}, {{-1}, {-1, 1}}}}
	want(t, "Synthesize", fmt.Sprintf("%+v", m), fmt.Sprintf("%+v", wanted))
	want(t, "Same", Same(m, wanted), true)
	a, b, c, e := Size(m)
	want(t, "Size", []any{a, b, c, e}, []any{6, 2, 4, api.OK})
	full := []api.Round{{Graph: api.Graph{N: 2, Hears: [5]int{3, 3}}}}
	l, e := Play(m, []int{0, 1}, full)
	want(t, "Play", []any{l, e}, []any{[][]int{{0, 1}, {0, 1}}, api.OK})
	to, e := Next(m, 0, 1, heard(0, 1))
	want(t, "Next", []any{to, e}, []any{1, api.OK})
	s, r := example(t)
	want(t, "Verify", Verify(m, s, r), api.OK)
}

func TestCheck(t *testing.T) {
	for i, x := range []struct {
		change func(m *api.Machine)
		e      api.Errno
	}{
		{func(m *api.Machine) { m.N = 6 }, api.ErrRange}, {func(m *api.Machine) { m.Rounds = 7 }, api.ErrRange}, {func(m *api.Machine) { m.Ins = 0 }, api.ErrRange}, {func(m *api.Machine) { m.Outs = 9 }, api.ErrRange}, {func(m *api.Machine) { m.First = m.First[1:] }, api.ErrShape}, {func(m *api.Machine) { m.First[0] = nil }, api.ErrShape}, {func(m *api.Machine) { m.Out = m.Out[1:] }, api.ErrShape},
		{func(m *api.Machine) { m.Out[1] = nil }, api.ErrShape}, {func(m *api.Machine) { m.Symbols = nil }, api.ErrShape}, {func(m *api.Machine) { m.Symbols[0] = nil }, api.ErrShape}, {func(m *api.Machine) { m.Symbols[0][1] = nil }, api.ErrShape}, {func(m *api.Machine) { m.Symbols[0][1][1] = []int{0} }, api.ErrShape}, {func(m *api.Machine) { m.Symbols[0][1][0] = []int{0} }, api.ErrShape},
		{func(m *api.Machine) { m.Out[1][0] = make([]int, 8192); m.First[0][0] = 9 }, api.ErrMany}, {func(m *api.Machine) { m.Steps = make([]api.Step, api.MaxSteps+1); m.First[0][0] = 9 }, api.ErrMany}, {func(m *api.Machine) { m.First[0][0] = 1; m.Steps[0].Round = 9 }, api.ErrRange}, {func(m *api.Machine) { m.First[0][0] = -2 }, api.ErrRange}, {func(m *api.Machine) { m.Out[0][0][0] = 2 }, api.ErrRange}, {func(m *api.Machine) { m.Symbols[0][0][1][0] = -1 }, api.ErrRange}, {func(m *api.Machine) { m.Symbols[0][0][1][0] = 1<<20 + 1 }, api.ErrRange},
		{func(m *api.Machine) { m.Steps[0].Round = 1; m.Steps[0].Heard[3] = 5 }, api.ErrRange}, {func(m *api.Machine) { m.Steps[0].Proc = 2 }, api.ErrRange}, {func(m *api.Machine) { m.Steps[0].To = 1 }, api.ErrRange}, {func(m *api.Machine) { m.Steps[0].Heard[3] = 0; m.Steps[0].Heard[0] = 9 }, api.ErrForm}, {func(m *api.Machine) { m.Steps[0].Heard[0] = -1 }, api.ErrRange}, {func(m *api.Machine) { m.Steps[0].Heard[0] = 1 }, api.ErrRange}, {func(m *api.Machine) { m.Steps[0].Heard[1] = -2 }, api.ErrRange},
		{func(m *api.Machine) { m.Steps[1] = m.Steps[0] }, api.ErrOrder}, {func(m *api.Machine) { m.Steps[0], m.Steps[1] = m.Steps[1], m.Steps[0] }, api.ErrOrder}, {func(m *api.Machine) { m.Steps = nil }, api.OK}, {func(m *api.Machine) { m.Steps[1].Heard[1] = 1 << 20 }, api.OK},
	} {
		m := made(t)
		x.change(&m)
		want(t, fmt.Sprint("Check ", i), Check(m), x.e)
		_, _, _, e := Size(m)
		want(t, "Size", e, x.e)
		if x.e == api.OK {
			continue
		}
		_, e = Next(m, 9, 9, [5]int{})
		want(t, "Next", e, x.e)
		_, e = Play(m, nil, nil)
		want(t, "Play", e, x.e)
		s, r := example(t)
		want(t, "Verify", Verify(m, s, r), x.e)
	}
}

func TestErrors(t *testing.T) {
	m := made(t)
	s, r := example(t)
	full := api.Round{Graph: api.Graph{N: 2, Hears: [5]int{3, 3}}}
	silent := api.Round{Graph: api.Graph{N: 2, Hears: [5]int{1, 2}}}
	for i, x := range []struct {
		in   []int
		word []api.Round
		e    api.Errno
	}{{[]int{9}, nil, api.ErrShape}, {[]int{0, 2}, make([]api.Round, 2000), api.ErrRange}, {[]int{0, 0}, make([]api.Round, 2000), api.ErrMany}, {[]int{0, 0}, make([]api.Round, 1), api.ErrRange}, {[]int{0, 0}, nil, api.ErrShape}, {[]int{1, 0}, []api.Round{full}, api.ErrGap}, {[]int{0, 0}, []api.Round{silent}, api.ErrGap}, {[]int{0, 0}, []api.Round{full, full}, api.ErrShape}} {
		_, e := Play(m, x.in, x.word)
		want(t, fmt.Sprint("Play ", i), e, x.e)
	}
	for _, x := range []struct {
		round, proc int
		e           api.Errno
	}{{-1, 0, api.ErrRange}, {1, 0, api.ErrRange}, {0, 2, api.ErrRange}, {0, -1, api.ErrRange}, {0, 0, api.ErrGap}} {
		_, e := Next(m, x.round, x.proc, [5]int{})
		want(t, "Next", e, x.e)
	}
	_, e := Synthesize(s, api.Rule{})
	want(t, "Synthesize", e, api.ErrShape)
	want(t, "Verify", Verify(api.Machine{}, s, api.Rule{}), api.ErrShape)
	other := r
	other.Out = slices.Clone(r.Out)
	other.Out[3] = 0
	want(t, "Verify", Verify(m, s, other), api.ErrProof)
	small := m
	small.Outs = 3
	want(t, "Verify", Verify(small, s, r), api.ErrMismatch)
	gap := m
	gap.Steps = m.Steps[1:]
	want(t, "Verify", Verify(gap, s, r), api.ErrGap)
	want(t, "Same", []bool{Same(m, gap), Same(m, small), Same(api.Machine{First: [][]int{}}, api.Machine{}), Same(api.Machine{First: [][]int{nil}}, api.Machine{}), Same(api.Machine{First: [][]int{nil}}, api.Machine{First: [][]int{{}}})}, []bool{false, false, true, false, true})
}

func TestConsequences(t *testing.T) {
	c, _ := library.Consensus(2, 2)
	crash, _ := failure.Crash(2, 1)
	commit, _ := library.Commit(3)
	crash3, _ := failure.Crash(3, 1)
	for _, p := range []api.Problem{{Task: c, Adversary: crash, Rounds: 2}, {Task: commit, Adversary: crash3, Rounds: 2}, {Task: c, Adversary: crash, Rounds: 3}} {
		s, _ := execution.Build(p)
		_, r, _, _ := decide.Decide(p)
		report, _, e := optimal.Optimal(p)
		want(t, "Optimal", e, api.OK)
		for _, x := range []api.Rule{r, report.Rule} {
			m, e := Synthesize(s, x)
			want(t, "Synthesize", []any{e, Check(m), Verify(m, s, x)}, []any{api.OK, api.OK, api.OK})
			states, _, _, _ := Size(m)
			want(t, "states", states < len(s.Table.Views), true)
			// Each state is reached.
			reached := map[[3]int]bool{}
			for _, y := range s.Executions {
				l, e := Play(m, p.Task.Cases[y.Case].In, y.Word)
				want(t, "Play", e, api.OK)
				for k, row := range l {
					for q, state := range row {
						reached[[3]int{k, q, state}] = true
					}
				}
			}
			want(t, "reached", len(reached), states)
			for k := range m.Out {
				l := m.Out[k][0]
				l[0] = (l[0]+2)%(m.Outs+1) - 1
				want(t, "another decision", Verify(m, s, x), api.ErrProof)
				l[0] = (l[0]+m.Outs+1)%(m.Outs+1) - 1
				if l[0] < -1 {
					l[0] += m.Outs + 1
				}
				break
			}
		}
	}
}
