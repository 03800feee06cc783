package indistinct

import (
	"fmt"
	"slices"
	"testing"

	"roundtable/api"
	"roundtable/execution"
	"roundtable/failure"
	"roundtable/library"
	"roundtable/partition"
	"roundtable/task"
)

func want(t *testing.T, what string, got, wanted any) {
	t.Helper()
	if fmt.Sprint(got) != fmt.Sprint(wanted) {
		t.Errorf("%s: got %v, want %v", what, got, wanted)
	}
}

func link(e, p int) api.Link { return api.Link{Execution: e, Proc: p} }

func example(t *testing.T) api.System {
	t.Helper()
	c, _ := library.Consensus(2, 2)
	c, _ = task.Restrict(c, []int{0, 1})
	move := func(row int) api.Move {
		return api.Move{Round: api.Round{Graph: api.Graph{N: 2, Hears: [5]int{row, 3}}}}
	}
	s, e := execution.Build(api.Problem{Task: c, Adversary: api.Adversary{N: 2, States: [][]api.Move{{move(1), move(3)}}}, Rounds: 1})
	want(t, "Build", e, api.OK)
	return s
}

func TestExample(t *testing.T) {
	s := example(t)
	for _, x := range [][3]int{{0, 2, 1}, {0, 1, 2}, {2, 3, 2}, {0, 3, 0}, {1, 1, 3}} {
		set, e := Linked(s, x[0], x[1])
		want(t, "Linked", []any{set, e}, []any{x[2], api.OK})
	}
	l, e := Classes(s, 0)
	want(t, "Classes", []any{l, e}, []any{[]int{0, 1, 0, 2}, api.OK})
	l, _ = Classes(s, 1)
	want(t, "Classes", l, []int{0, 0, 1, 1})
	l, e = Components(s)
	want(t, "Components", []any{l, e}, []any{[]int{0, 0, 0, 0}, api.OK})
	w, ok, e := Walk(s, 1, 3)
	want(t, "Walk", []any{w, ok, e}, []any{[]api.Link{{Execution: 1, Proc: -1}, {Execution: 0, Proc: 1}, {Execution: 2, Proc: 0}, {Execution: 3, Proc: 1}}, true, api.OK})
	d, ok, e := Distance(s, 1, 3)
	want(t, "Distance", []any{d, ok, e}, []any{3, true, api.OK})
	w, ok, _ = Walk(s, 2, 2)
	want(t, "Walk", []any{w, ok}, []any{[]api.Link{{Execution: 2, Proc: -1}}, true})
}

func TestErrors(t *testing.T) {
	s := example(t)
	bad := s
	bad.Executions = nil
	_, e := Linked(bad, 9, 9)
	want(t, "Linked", e, api.ErrForm)
	_, e = Classes(bad, 9)
	want(t, "Classes", e, api.ErrForm)
	_, e = Components(bad)
	want(t, "Components", e, api.ErrForm)
	_, _, e = Walk(bad, 9, 9)
	want(t, "Walk", e, api.ErrForm)
	_, _, e = Distance(bad, 9, 9)
	want(t, "Distance", e, api.ErrForm)
	want(t, "Verify", Verify(bad, nil), api.ErrForm)
	for _, x := range [][2]int{{-1, 0}, {0, 4}} {
		_, e = Linked(s, x[0], x[1])
		want(t, "Linked", e, api.ErrNone)
		_, _, e = Walk(s, x[0], x[1])
		want(t, "Walk", e, api.ErrNone)
		_, _, e = Distance(s, x[0], x[1])
		want(t, "Distance", e, api.ErrNone)
	}
	for _, p := range []int{-1, 2} {
		_, e = Classes(s, p)
		want(t, "Classes", e, api.ErrRange)
	}
	for i, x := range []struct {
		walk []api.Link
		e    api.Errno
	}{
		{nil, api.ErrEmpty}, {make([]api.Link, 4097), api.ErrMany}, {[]api.Link{link(4, 0)}, api.ErrNone}, {[]api.Link{link(0, 0), link(9, 9)}, api.ErrForm}, {[]api.Link{link(0, -1), link(2, 2)}, api.ErrRange}, {[]api.Link{link(0, -1), link(2, -1)}, api.ErrRange},
		{[]api.Link{link(0, -1), link(2, 1)}, api.ErrProof}, {[]api.Link{link(0, -1), link(2, 0), link(2, 1), link(0, 0)}, api.OK}, {[]api.Link{link(0, -1), link(-1, 9)}, api.ErrNone},
	} {
		want(t, fmt.Sprint("Verify ", i), Verify(s, x.walk), x.e)
	}
}

func TestConsequences(t *testing.T) {
	c, _ := library.Consensus(3, 2)
	for f := range 3 {
		crash, _ := failure.Crash(3, f)
		s, _ := execution.Build(api.Problem{Task: c, Adversary: crash, Rounds: 1})
		components, _ := Components(s)
		joined, _ := Classes(s, 0)
		for p := 1; p < 3; p++ {
			l, _ := Classes(s, p)
			joined, _ = partition.Join(joined, l)
		}
		want(t, "Components", components, joined)
		number, _ := partition.Count(components)
		want(t, "components", number, []int{8, 1, 7}[f])
		for e := 0; e < len(s.Executions); e += 5 {
			for f := e % 7; f < len(s.Executions); f += 37 {
				w, ok, _ := Walk(s, e, f)
				d, _, _ := Distance(s, f, e)
				set, _ := Linked(s, e, f)
				want(t, "Walk", ok, components[e] == components[f])
				if !ok {
					continue
				}
				want(t, "Distance", []any{len(w) - 1, Verify(s, w)}, []any{d, api.OK})
				want(t, "linked", e != f && d == 1, e != f && set != 0)
				seen := map[int]bool{}
				for _, step := range w {
					seen[step.Execution] = true
				}
				want(t, "once", len(seen), len(w))
				back := []api.Link{{Execution: f, Proc: -1}}
				for i := len(w) - 1; i > 0; i-- {
					back = append(back, api.Link{Execution: w[i-1].Execution, Proc: w[i].Proc})
				}
				want(t, "backwards", Verify(s, back), api.OK)
			}
		}
	}
}

func TestFirst(t *testing.T) {
	c, _ := library.Consensus(2, 2)
	crash, _ := failure.Crash(2, 1)
	s, _ := execution.Build(api.Problem{Task: c, Adversary: crash, Rounds: 1})
	for e := range s.Executions {
		for f := range s.Executions {
			d, _, _ := Distance(s, e, f)
			if w, ok, _ := Walk(s, e, f); ok {
				want(t, "least", w, first(s, e, f, d))
			}
		}
	}
}

// first returns the least walk of a number of steps.
func first(s api.System, e, f, steps int) []api.Link {
	walk := []api.Link{{Execution: e, Proc: -1}}
	for ; steps > 0; steps-- {
		for next := range s.Executions {
			set, _ := Linked(s, e, next)
			d, ok, _ := Distance(s, next, f)
			if set != 0 && ok && d == steps-1 {
				walk = append(walk, api.Link{Execution: next, Proc: slices.IndexFunc([]int{1, 2, 4}, func(bit int) bool { return set&bit != 0 })})
				e = next
				break
			}
		}
	}
	return walk
}
