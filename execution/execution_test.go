package execution

import (
	"fmt"
	"slices"
	"testing"

	"roundtable/adversary"
	"roundtable/api"
	"roundtable/failure"
	"roundtable/library"
	"roundtable/round"
	"roundtable/task"
	"roundtable/views"
)

func want(t *testing.T, what string, got, wanted any) {
	t.Helper()
	if fmt.Sprint(got) != fmt.Sprint(wanted) {
		t.Errorf("%s: got %v, want %v", what, got, wanted)
	}
}

func graphs(l ...[]int) api.Adversary {
	a := api.Adversary{N: len(l[0]), States: [][]api.Move{nil}}
	for _, hears := range l {
		m := api.Move{Round: api.Round{Graph: api.Graph{N: a.N}}}
		copy(m.Round.Graph.Hears[:], hears)
		a.States[0] = append(a.States[0], m)
	}
	return a
}

func example() api.Problem {
	c, _ := library.Consensus(2, 2)
	c, _ = task.Restrict(c, []int{0, 1})
	return api.Problem{Task: c, Adversary: graphs([]int{1, 3}, []int{3, 3}), Rounds: 1}
}

func TestExample(t *testing.T) {
	s, e := Build(example())
	want(t, "Build", []any{len(s.Executions), len(s.Table.Views), e, Verify(s)}, []any{4, 8, api.OK, api.OK})
	for i, text := range []string{"0:0", "1:0", "0(0:0)", "1(0:0,1:0)", "0(0:0,1:0)", "1:1", "1(0:0,1:1)", "0(0:0,1:1)"} {
		got, _ := views.Text(s.Table, i)
		want(t, "view", got, text)
	}
	want(t, "views", s.Executions[2].Views, [][]int{{0, 5}, {2, 6}})
	l, e := Having(s, 2)
	want(t, "Having", []any{l, e}, []any{[]int{0, 2}, api.OK})
	l, _ = Relevant(s)
	want(t, "Relevant", l, []int{2, 3, 4, 6, 7})
	l, e = Continuing(s, 0)
	want(t, "Continuing", []any{l, e}, []any{[]int{2, 4, 7}, api.OK})
	l, _ = Continuing(s, 6)
	want(t, "Continuing", l, []int{6})
	i, e := Find(s, 1, s.Executions[3].Word)
	want(t, "Find", []any{i, e}, []any{3, api.OK})
	o, e := Obliged(s, 3)
	want(t, "Obliged", []any{o, e}, []any{3, api.OK})
	n, e := Count(example())
	want(t, "Count", []any{n, e}, []any{4, api.OK})
}

func TestErrors(t *testing.T) {
	p := example()
	three, _ := library.Consensus(3, 2)
	for i, x := range []struct {
		change func(*api.Problem)
		e      api.Errno
	}{
		{func(p *api.Problem) { p.Task.N = 0; p.Adversary.N = 9 }, api.ErrRange}, {func(p *api.Problem) { p.Adversary.States = nil; p.Rounds = 9 }, api.ErrMany}, {func(p *api.Problem) { p.Task = three; p.Rounds = 9 }, api.ErrMismatch}, {func(p *api.Problem) { p.Rounds = 7 }, api.ErrRange}, {func(p *api.Problem) { p.Rounds = -1 }, api.ErrRange},
	} {
		changed := p
		x.change(&changed)
		want(t, fmt.Sprint("Check ", i), Check(changed), x.e)
		_, e := Count(changed)
		want(t, "Count", e, x.e)
		_, e = Build(changed)
		want(t, "Build", e, x.e)
		want(t, "Verify", Verify(api.System{Problem: changed}), x.e)
	}
	s, _ := Build(p)
	for i, change := range []func(*api.System){
		func(s *api.System) { s.Problem.Rounds = 0 }, func(s *api.System) { s.Table.N = 3 }, func(s *api.System) { s.Table.Views = s.Table.Views[:7] }, func(s *api.System) { s.Executions = s.Executions[:3] },
		func(s *api.System) { s.Executions = slices.Clone(s.Executions); s.Executions[0].Case = 1 }, func(s *api.System) {
			s.Executions = slices.Clone(s.Executions)
			s.Executions[0].Views = [][]int{{0, 1}}
		},
		func(s *api.System) {
			s.Executions = slices.Clone(s.Executions)
			s.Executions[0].Word = s.Executions[1].Word
		}, func(s *api.System) { s.Table.Views = slices.Clone(s.Table.Views); s.Table.Views[5].Input = 2 },
	} {
		changed := s
		change(&changed)
		want(t, fmt.Sprint("Verify ", i), Verify(changed), api.ErrForm)
		_, e := Find(changed, 0, nil)
		want(t, "Find", e, api.ErrForm)
		_, e = Obliged(changed, 99)
		want(t, "Obliged", e, api.ErrForm)
		_, e = Having(changed, 99)
		want(t, "Having", e, api.ErrForm)
		_, e = Relevant(changed)
		want(t, "Relevant", e, api.ErrForm)
		_, e = Continuing(changed, 99)
		want(t, "Continuing", e, api.ErrForm)
	}
	for _, i := range []int{-1, 8} {
		_, e := Obliged(s, i)
		want(t, "Obliged", e, api.ErrNone)
		_, e = Having(s, i)
		want(t, "Having", e, api.ErrNone)
		_, e = Continuing(s, i)
		want(t, "Continuing", e, api.ErrNone)
	}
	_, e := Find(s, 2, s.Executions[0].Word)
	want(t, "Find", e, api.ErrNone)
	_, e = Find(s, 0, nil)
	want(t, "Find", e, api.ErrNone)
}

func TestLimits(t *testing.T) {
	c, _ := library.Consensus(2, 2)
	p := api.Problem{Task: c, Adversary: graphs([]int{1, 2}, []int{1, 3}, []int{3, 2}, []int{3, 3}), Rounds: 5}
	s, e := Build(p)
	want(t, "Build", []any{len(s.Executions), e}, []any{4096, api.OK})
	p.Rounds = 6
	n, e := Count(p)
	want(t, "Count", []any{n, e}, []any{16384, api.OK})
	_, e = Build(p)
	want(t, "Build", e, api.ErrLimit)
	want(t, "Verify", Verify(api.System{Problem: p}), api.ErrLimit)
	c, _ = library.Consensus(3, 2)
	all, _ := failure.Omit(3, 3)
	_, e = Count(api.Problem{Task: c, Adversary: all, Rounds: 6})
	want(t, "Count", e, api.ErrLimit)
	// Not too many executions, but too many views.
	c, _ = library.Consensus(5, 2)
	var l [][]int
	for k := range 11 {
		l = append(l, []int{1 | k<<1, 2 | k, 31, 8 | k*3&23, 16 | k*5&15})
	}
	p = api.Problem{Task: c, Adversary: graphs(l...), Rounds: 2}
	slices.SortFunc(p.Adversary.States[0], func(x, y api.Move) int { return round.Compare(x.Round, y.Round) })
	n, e = Count(p)
	want(t, "Count", []any{n, e}, []any{3872, api.OK})
	_, e = Build(p)
	want(t, "Build", e, api.ErrLimit)
}

func TestFaulty(t *testing.T) {
	c, _ := library.Consensus(2, 2)
	crash, _ := failure.Crash(2, 2)
	s, e := Build(api.Problem{Task: c, Adversary: crash, Rounds: 2})
	want(t, "Build", []any{e, Verify(s)}, []any{api.OK, api.OK})
	words, _ := adversary.Words(crash, 2)
	want(t, "executions", len(s.Executions), 4*len(words))
	relevant := map[int]bool{}
	for e, x := range s.Executions {
		want(t, "order", []any{x.Case, x.Word}, []any{e / len(words), words[e%len(words)]})
		o, _ := Obliged(s, e)
		want(t, "Obliged", o, 3&^x.Word[1].Faulty)
		for p, v := range x.Views[2] {
			if o>>p&1 == 1 {
				relevant[v] = true
			}
		}
		for k, row := range x.Views {
			for p, v := range row {
				y := s.Table.Views[v]
				want(t, "view", []int{y.Proc, y.Round}, []int{p, k})
				for q, h := range y.Heard {
					heard := k > 0 && q < 2 && x.Word[k-1].Graph.Hears[p]>>q&1 == 1
					if heard != (h >= 0) || heard && h != x.Views[k-1][q] {
						t.Errorf("execution %d: view %v", e, y)
					}
				}
			}
		}
	}
	l, _ := Relevant(s)
	want(t, "Relevant", len(l), len(relevant))
	want(t, "Check", views.Check(s.Table), api.OK)
	zero, _ := Build(api.Problem{Task: c, Adversary: crash})
	o, _ := Obliged(zero, 3)
	want(t, "without rounds", []any{len(zero.Executions), o, zero.Executions[3].Views}, []any{4, 3, [][]int{{3, 2}}})
}
