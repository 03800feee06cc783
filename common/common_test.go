package common

import (
	"fmt"
	"slices"
	"testing"

	"roundtable/api"
	"roundtable/execution"
	"roundtable/failure"
	"roundtable/formula"
	"roundtable/knowledge"
	"roundtable/library"
	"roundtable/points"
	"roundtable/task"
)

func want(t *testing.T, what string, got, wanted any) {
	t.Helper()
	if fmt.Sprint(got) != fmt.Sprint(wanted) {
		t.Errorf("%s: got %v, want %v", what, got, wanted)
	}
}

func example(t *testing.T) api.System {
	t.Helper()
	c, _ := library.Consensus(2, 2)
	c, _ = task.Restrict(c, []int{0, 1})
	move := func(row int) api.Move {
		return api.Move{Round: api.Round{Graph: api.Graph{N: 2, Hears: [5]int{row, 3}}}}
	}
	s, e := execution.Build(api.Problem{Task: c, Adversary: api.Adversary{N: 2, States: [][]api.Move{{move(1), move(3)}}}, Rounds: 1})
	want(t, "Build", e, api.OK)
	return s
}

func TestExample(t *testing.T) {
	s := example(t)
	set := []bool{false, false, false, false, true, true, true, true}
	l, e := Components(s, 3)
	want(t, "Components", []any{l, e}, []any{[]int{0, 1, 0, 1, 0, 1, 0, 1}, api.OK})
	h, e := Held(s, 3, set)
	want(t, "Held", []any{h, e}, []any{make([]bool, 8), api.OK})
	h, _ = Held(s, 2, set)
	want(t, "Held", h, set)
	h, _ = Held(s, 0, set)
	want(t, "Held", h, set)
	w, ok, e := Witness(s, 3, 7, set)
	want(t, "Witness", []any{w, ok, e}, []any{[]Step{{7, -1}, {5, 1}, {1, 0}}, true, api.OK})
	want(t, "Verify", Verify(s, 3, set, w), api.OK)
	w, ok, _ = Witness(s, 2, 7, set)
	want(t, "Witness", []any{w, ok}, []any{[]Step{}, false})
	r, e := Radius(s, 3, set)
	want(t, "Radius", []any{r, e}, []any{[]int{0, 0, 0, 0, 1, 1, 1, 2}, api.OK})
	r, _ = Radius(s, 0, set)
	want(t, "Radius", r, []int{0, 0, 0, 0, -1, -1, -1, -1})
	w, ok, _ = Witness(s, 0, 1, set)
	want(t, "Witness", []any{w, ok}, []any{[]Step{{1, -1}}, true})
}

func TestErrors(t *testing.T) {
	s := example(t)
	bad := s
	bad.Executions = nil
	set := []bool{false, false, false, false, true, true, true, true}
	for _, x := range []struct {
		s     api.System
		group int
		set   []bool
		e     api.Errno
	}{{bad, 9, nil, api.ErrForm}, {s, 4, nil, api.ErrRange}, {s, -1, nil, api.ErrRange}, {s, 3, set[1:], api.ErrShape}} {
		if x.e != api.ErrShape {
			_, e := Components(x.s, x.group)
			want(t, "Components", e, x.e)
		}
		_, e := Held(x.s, x.group, x.set)
		want(t, "Held", e, x.e)
		_, _, e = Witness(x.s, x.group, 99, x.set)
		want(t, "Witness", e, x.e)
		want(t, "Verify", Verify(x.s, x.group, x.set, nil), x.e)
		_, e = Radius(x.s, x.group, x.set)
		want(t, "Radius", e, x.e)
	}
	for _, point := range []int{-1, 8} {
		_, _, e := Witness(s, 3, point, set)
		want(t, "Witness", e, api.ErrNone)
	}
	for i, x := range []struct {
		group int
		walk  []Step
		e     api.Errno
	}{
		{3, nil, api.ErrEmpty}, {3, make([]Step, api.MaxSteps+1), api.ErrMany}, {3, []Step{{8, 0}}, api.ErrNone}, {3, []Step{{0, 0}, {9, 9}}, api.ErrForm}, {3, []Step{{7, -1}, {5, 2}}, api.ErrRange}, {1, []Step{{7, -1}, {5, 1}}, api.ErrRange}, {3, []Step{{7, -1}, {5, -1}}, api.ErrRange},
		{3, []Step{{7, -1}, {5, 0}}, api.ErrProof}, {3, []Step{{7, -1}, {5, 1}}, api.ErrProof}, {3, []Step{{7, -1}, {5, 1}, {7, 1}, {5, 1}, {1, 0}}, api.OK}, {0, []Step{{1, -1}}, api.OK}, {3, []Step{{7, -1}, {-1, 7}}, api.ErrNone},
	} {
		want(t, fmt.Sprint("Verify ", i), Verify(s, x.group, set, x.walk), x.e)
	}
}

func TestConsequences(t *testing.T) {
	c, _ := library.Consensus(2, 2)
	crash, _ := failure.Crash(2, 1)
	s, _ := execution.Build(api.Problem{Task: c, Adversary: crash, Rounds: 2})
	n, _ := points.Count(s)
	for _, src := range []string{"input(0, 1)", "given(0)", "heard(1, 0)", "not faulty(0) or at(1)", "true"} {
		f, _, _ := formula.Parse(src, 2)
		set, _ := knowledge.Eval(s, api.Rule{}, f)
		for group := 1; group < 4; group++ {
			held, _ := Held(s, group, set)
			common, _, _ := knowledge.Common(s, group, set)
			want(t, src, held, common)
			levels, _ := knowledge.Levels(s, group, set)
			radius, _ := Radius(s, group, set)
			for point := range n {
				if radius[point] < 0 {
					want(t, "level", levels[point], n)
				} else {
					want(t, "level", levels[point], radius[point]-1)
				}
				w, ok, _ := Witness(s, group, point, set)
				want(t, "Witness", ok, radius[point] >= 0)
				if !ok {
					continue
				}
				want(t, "Witness", []any{len(w) - 1, Verify(s, group, set, w)}, []any{radius[point], api.OK})
				if point%11 == 0 {
					want(t, "first walk", w, first(s, group, point, radius))
				}
			}
		}
	}
}

// first returns the least walk with the fewest steps.
func first(s api.System, group, point int, radius []int) []Step {
	walk := []Step{{point, -1}}
	for radius[point] > 0 {
		next := slices.IndexFunc(radius, func(int) bool { return false })
		for other := range radius {
			for p := range 2 {
				labels, _ := points.Classes(s, p)
				if next < 0 && group>>p&1 == 1 && labels[other] == labels[point] && radius[other] == radius[point]-1 {
					next = other
					walk = append(walk, Step{other, p})
				}
			}
		}
		point = next
	}
	return walk
}
