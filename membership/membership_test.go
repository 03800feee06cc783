package membership

import (
	"fmt"
	"slices"
	"testing"

	"roundtable/api"
	"roundtable/decide"
	"roundtable/execution"
	"roundtable/failure"
	"roundtable/library"
	"roundtable/machine"
)

func want(t *testing.T, what string, got, wanted any) {
	t.Helper()
	if fmt.Sprint(got) != fmt.Sprint(wanted) {
		t.Errorf("%s: got %v, want %v", what, got, wanted)
	}
}

func full(faulty int) api.Round {
	return api.Round{Graph: api.Graph{N: 2, Hears: [5]int{3, 3}}, Faulty: faulty}
}

// example returns the service in which two members decide the input of process 0, and one its own; some processes may be faulty, but send all messages.
func example(t *testing.T) api.Service {
	t.Helper()
	one := api.Machine{N: 1, Ins: 2, Outs: 2, First: [][]int{{0, 1}}, Out: [][][]int{{{0, 1}}}}
	two := api.Machine{N: 2, Rounds: 1, Ins: 2, Outs: 2, First: [][]int{{0, 1}, {0, 0}}, Symbols: [][][][]int{{{nil, {0, 1}}, {{0}, nil}}}, Out: [][][]int{{{-1, -1}, {-1}}, {{0, 1}, {0, 1}}}}
	for p := range 2 {
		for v := range 2 {
			heard := [5]int{v, 0, -1, -1, -1}
			if p == 1 {
				heard[0], heard[1] = v, 0
			}
			two.Steps = append(two.Steps, api.Step{Proc: p, Heard: heard, To: v})
		}
	}
	want(t, "Check", []any{machine.Check(one), machine.Check(two)}, []any{api.OK, api.OK})
	a := api.Adversary{N: 1, States: [][]api.Move{{{Round: api.Round{Graph: api.Graph{N: 1, Hears: [5]int{1}}}}}}}
	b := api.Adversary{N: 2, States: [][]api.Move{nil, nil, nil, nil}}
	for state := range 4 {
		for faulty := range 4 {
			if state&^faulty == 0 {
				b.States[state] = append(b.States[state], api.Move{Round: full(faulty), To: faulty})
			}
		}
	}
	return api.Service{N: 2, Machines: []api.Machine{one, two}, Adversaries: []api.Adversary{a, b}}
}

func changes(procs ...int) []api.Change {
	var l []api.Change
	for _, p := range procs {
		l = append(l, api.Change{Proc: p})
	}
	return l
}

func TestExamples(t *testing.T) {
	s := example(t)
	g, e := Begin(s, 3)
	want(t, "Begin", []any{g, e, Check(s), State(s, g)}, []any{"{0 3 [{true false [3]} {true false [3]}]}", api.OK, api.OK, api.OK})
	g, d, e := Epoch(s, g, api.Epoch{Changes: changes(-1, 1), Proposals: []int{1, 0}, Word: []api.Round{full(0)}})
	want(t, "Epoch", []any{g, d, e, State(s, g)}, []any{"{1 1 [{true false [3 1]} {true false [3 1]}]}", []int{1, 1}, api.OK, api.OK})
	_, _, e = Epoch(s, g, api.Epoch{Changes: changes(0), Proposals: []int{0}})
	want(t, "Epoch", e, api.ErrEmpty)
	g, d, e = Epoch(s, g, api.Epoch{Changes: changes(1), Proposals: []int{0}})
	want(t, "Epoch", []any{g, d, e}, []any{"{2 3 [{true false [3 1 3]} {true false [3 1 3]}]}", []int{0}, api.OK})
	ok, e := Agree(s, g)
	want(t, "Agree", []any{ok, e}, []any{true, api.OK})
	// Process 0 is faulty, and halts.
	h, d, e := Epoch(s, g, api.Epoch{Changes: changes(-1), Proposals: []int{0, 0}, Word: []api.Round{full(1)}})
	want(t, "Epoch", []any{h, d, e}, []any{"{3 3 [{true true [3 1 3]} {true false [3 1 3 3]}]}", []int{0, 0}, api.OK})
	w, e := Schedules(s, h)
	want(t, "Schedules", []any{w, e}, []any{[][]api.Round{{full(1)}, {full(3)}}, api.OK})
	_, _, e = Epoch(s, h, api.Epoch{Changes: changes(-1), Proposals: []int{0, 0}, Word: []api.Round{full(0)}})
	want(t, "Epoch", e, api.ErrSchedule)
	h, _, e = Epoch(s, h, api.Epoch{Changes: changes(0), Proposals: []int{0, 0}, Word: []api.Round{full(1)}})
	want(t, "halted member leaves", []any{h, e, State(s, h)}, []any{"{4 2 [{true true [3 1 3]} {true false [3 1 3 3 2]}]}", api.OK, api.OK})
	h, _, e = Epoch(s, h, api.Epoch{Changes: changes(0), Proposals: []int{0}})
	want(t, "joins again", []any{h, e, State(s, h)}, []any{"{5 3 [{true false [3 1 3 3 2 3]} {true false [3 1 3 3 2 3]}]}", api.OK, api.OK})
	g, _, e = Epoch(s, g, api.Epoch{Changes: changes(0), Proposals: []int{0, 0}, Word: []api.Round{full(3)}})
	want(t, "nobody remains", []any{g, e, State(s, g)}, []any{"{3 3 [{true true [3 1 3]} {true true [3 1 3]}]}", api.OK, api.OK})
	_, e = Schedules(s, g)
	want(t, "Schedules", e, api.ErrHalted)
	_, _, e = Epoch(s, g, api.Epoch{})
	want(t, "Epoch", e, api.ErrHalted)
	g, n, e := Run(s, 3, []api.Epoch{{Changes: changes(-1, 1), Proposals: []int{1, 0}, Word: []api.Round{full(0)}}, {Changes: changes(1), Proposals: []int{0}}})
	want(t, "Run", []any{g.Set, n, e}, []any{3, 2, api.OK})
	g, n, e = Run(s, 1, []api.Epoch{{Changes: changes(-1), Proposals: []int{0}}, {Changes: changes(0), Proposals: []int{0}}})
	want(t, "Run", []any{g, n, e}, []any{api.Group{}, 1, api.ErrEmpty})
	_, n, e = Run(s, 4, nil)
	want(t, "Run", []any{n, e}, []any{0, api.ErrRange})
}

func TestErrors(t *testing.T) {
	s := example(t)
	g, _ := Begin(s, 3)
	for i, x := range []struct {
		change func(s *api.Service)
		e      api.Errno
	}{{func(s *api.Service) { s.N = 0; s.Machines = nil }, api.ErrRange}, {func(s *api.Service) { s.N = 6 }, api.ErrRange}, {func(s *api.Service) { s.Machines = s.Machines[1:] }, api.ErrShape}, {func(s *api.Service) { s.Adversaries = nil }, api.ErrShape}, {func(s *api.Service) { s.Machines[1].Out = nil; s.Adversaries[0].N = 9 }, api.ErrRange}, {func(s *api.Service) { s.Machines[1].Out = nil }, api.ErrShape}, {func(s *api.Service) { s.Adversaries[1].States = nil }, api.ErrMany}, {func(s *api.Service) { s.Machines[1] = s.Machines[0] }, api.ErrMismatch}, {func(s *api.Service) { s.Adversaries[1] = s.Adversaries[0] }, api.ErrMismatch}} {
		bad := example(t)
		x.change(&bad)
		want(t, fmt.Sprint("Check ", i), Check(bad), x.e)
		_, e := Begin(bad, 0)
		want(t, "Begin", e, x.e)
		want(t, "State", State(bad, g), x.e)
		_, e = Schedules(bad, g)
		want(t, "Schedules", e, x.e)
		_, _, e = Epoch(bad, g, api.Epoch{})
		want(t, "Epoch", e, x.e)
		_, _, e = Run(bad, 3, nil)
		want(t, "Run", e, x.e)
		_, e = Agree(bad, g)
		want(t, "Agree", e, x.e)
	}
	for _, set := range []int{-1, 0, 4} {
		_, e := Begin(s, set)
		want(t, "Begin", e, api.ErrRange)
	}
	for i, x := range []struct {
		change func(g *api.Group)
		e      api.Errno
	}{
		{func(g *api.Group) { g.Epoch = -1 }, api.ErrRange}, {func(g *api.Group) { g.Epoch = 1024 }, api.ErrRange}, {func(g *api.Group) { g.Set = 0; g.Members = nil }, api.ErrRange}, {func(g *api.Group) { g.Set = 4 }, api.ErrRange}, {func(g *api.Group) { g.Members = g.Members[1:] }, api.ErrShape}, {func(g *api.Group) { g.Members[0].History = nil }, api.ErrForm}, {func(g *api.Group) { g.Members[0] = api.Member{} }, api.ErrForm},
		{func(g *api.Group) { g.Set = 1; g.Members[1] = api.Member{Halted: true} }, api.ErrForm}, {func(g *api.Group) { g.Set = 1; g.Members[1] = api.Member{History: []int{1}} }, api.ErrForm}, {func(g *api.Group) { g.Members[1].History = []int{3, 3} }, api.ErrMany}, {func(g *api.Group) { g.Members[1].History = []int{4} }, api.ErrRange}, {func(g *api.Group) { g.Members[1].History = []int{2} }, api.ErrForm}, {func(g *api.Group) { g.Epoch = 1 }, api.ErrForm}, {func(g *api.Group) { g.Members[1].History = []int{2}; g.Members[1].Halted = true }, api.OK}, {func(g *api.Group) { g.Members[1].History = []int{0}; g.Members[1].Halted = true }, api.ErrRange},
	} {
		bad, _ := Begin(s, 3)
		x.change(&bad)
		want(t, fmt.Sprint("State ", i), State(s, bad), x.e)
		_, e := Agree(s, bad)
		want(t, "Agree", e, x.e)
		if x.e != api.OK {
			_, e = Schedules(s, bad)
			want(t, "Schedules", e, x.e)
			_, _, e = Epoch(s, bad, api.Epoch{})
			want(t, "Epoch", e, x.e)
		}
	}
	word := []api.Round{full(0)}
	for i, x := range []struct {
		e   api.Epoch
		err api.Errno
	}{
		{api.Epoch{}, api.ErrMany}, {api.Epoch{Changes: make([]api.Change, 9)}, api.ErrMany}, {api.Epoch{Changes: changes(-1, 2)}, api.ErrRange}, {api.Epoch{Changes: changes(-2)}, api.ErrRange}, {api.Epoch{Changes: changes(0), Proposals: []int{9}}, api.ErrShape}, {api.Epoch{Changes: changes(0), Proposals: []int{0, 1}}, api.ErrRange}, {api.Epoch{Changes: changes(0), Proposals: []int{0, -1}}, api.ErrRange},
		{api.Epoch{Changes: changes(0), Proposals: []int{0, 0}}, api.ErrSchedule}, {api.Epoch{Changes: changes(0), Proposals: []int{0, 0}, Word: []api.Round{full(0), full(0)}}, api.ErrSchedule}, {api.Epoch{Changes: changes(0), Proposals: []int{0, 0}, Word: []api.Round{{}}}, api.ErrSchedule}, {api.Epoch{Changes: changes(-1, -1, 0), Proposals: []int{0, 2}, Word: word}, api.ErrRange}, {api.Epoch{Changes: changes(-1, 0), Proposals: []int{0, 1}, Word: word}, api.OK},
	} {
		_, _, e := Epoch(s, g, x.e)
		want(t, fmt.Sprint("Epoch ", i), e, x.err)
		_, n, e := Run(s, 3, []api.Epoch{x.e})
		want(t, fmt.Sprint("Run ", i), []any{n, e}, []any{map[bool]int{true: 1}[x.err == api.OK], x.err})
	}
	late, _ := Begin(s, 1)
	late.Epoch = api.MaxList - 1
	late.Members[0].History = slices.Repeat([]int{1}, api.MaxList)
	_, _, e := Epoch(s, late, api.Epoch{})
	want(t, "Epoch", []any{State(s, late), e}, []any{api.OK, api.ErrMany})
	// Decisions of machines that are no consensus.
	for i, x := range []struct {
		out [][]int
		e   api.Errno
	}{{[][]int{{0, 1}, {1, 0}}, api.ErrMismatch}, {[][]int{{-1, 1}, {0, 1}}, api.ErrGap}, {[][]int{{0, 1}, {-1, 1}}, api.ErrGap}, {[][]int{{2, 1}, {-1, 1}}, api.ErrRange}} {
		odd := example(t)
		odd.Machines[1].Outs = 3
		odd.Machines[1].Out[1] = x.out
		_, _, e := Epoch(odd, g, api.Epoch{Changes: changes(-1, 0), Proposals: []int{0, 0}, Word: word})
		want(t, fmt.Sprint("decisions ", i), e, x.e)
		if x.e == api.ErrMismatch {
			_, _, e = Epoch(odd, g, api.Epoch{Changes: changes(-1, -1), Proposals: []int{0, 0}, Word: word})
			want(t, "equal changes", e, api.OK)
		}
	}
	fixed := example(t)
	fixed.Adversaries[1] = api.Adversary{N: 2, States: [][]api.Move{{{Round: full(0)}}}}
	halted, _ := Begin(s, 3)
	halted.Members[0].Halted = true
	_, e = Schedules(fixed, halted)
	want(t, "Schedules", e, api.ErrEmpty)
	apart, _ := Begin(s, 3)
	apart.Members[0] = api.Member{Joined: true, Halted: true, History: []int{1}}
	ok, _ := Agree(s, apart)
	want(t, "Agree", ok, false)
}

func TestConsequences(t *testing.T) {
	// A service whose machines decide the consensus under crashes.
	s := api.Service{N: 3}
	for n := 1; n <= 3; n++ {
		c, _ := library.Consensus(n, 2)
		a, _ := failure.Crash(n, 1)
		if n == 3 {
			a, _ = failure.Crash(n, 2)
		}
		p := api.Problem{Task: c, Adversary: a, Rounds: n - 1}
		system, _ := execution.Build(p)
		verdict, r, _, _ := decide.Decide(p)
		if verdict != api.VerdictYes {
			p.Rounds++
			system, _ = execution.Build(p)
			verdict, r, _, _ = decide.Decide(p)
		}
		want(t, "Decide", verdict, api.VerdictYes)
		m, _ := machine.Synthesize(system, r)
		s.Machines, s.Adversaries = append(s.Machines, m), append(s.Adversaries, a)
	}
	want(t, "Check", Check(s), api.OK)
	seed := uint32(3)
	next := func(n int) int {
		seed = seed*1664525 + 1013904223
		return int(seed >> 16 % uint32(n))
	}
	for range 60 {
		g, _ := Begin(s, 1+next(7))
		for range 8 {
			words, e := Schedules(s, g)
			if e != api.OK {
				break
			}
			n := len(words[0])
			l := changes(next(4)-1, next(4)-1)
			members := 0
			for p := range 3 {
				members += g.Set >> p & 1
			}
			x := api.Epoch{Changes: l, Word: words[next(len(words))]}
			for range members {
				x.Proposals = append(x.Proposals, next(2))
			}
			after, d, e := Epoch(s, g, x)
			if e == api.ErrEmpty {
				continue
			}
			want(t, fmt.Sprint("Epoch ", g, x, n), []any{e, len(d)}, []any{api.OK, members})
			agree, _ := Agree(s, after)
			want(t, "after", []any{State(s, after), agree, after.Epoch}, []any{api.OK, true, g.Epoch + 1})
			for p, m := range after.Members {
				if before := g.Members[p]; before.Joined && len(m.History) > len(before.History)+1 && before.Halted == m.Halted && g.Set>>p&1 == 1 {
					t.Errorf("the history of %d: %v", p, m)
				}
			}
			g = after
		}
	}
}
