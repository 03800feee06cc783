package symmetry

import (
	"fmt"
	"testing"

	"roundtable/adversary"
	"roundtable/api"
	"roundtable/failure"
	"roundtable/library"
	"roundtable/permutation"
	"roundtable/round"
)

func want(t *testing.T, what string, got, wanted any) {
	t.Helper()
	if fmt.Sprint(got) != fmt.Sprint(wanted) {
		t.Errorf("%s: got %v, want %v", what, got, wanted)
	}
}

func graphs(l ...[]int) api.Adversary {
	a := api.Adversary{N: len(l[0]), States: [][]api.Move{nil}}
	for _, hears := range l {
		m := api.Move{Round: api.Round{Graph: api.Graph{N: a.N}}}
		copy(m.Round.Graph.Hears[:], hears)
		a.States[0] = append(a.States[0], m)
	}
	return a
}

func TestExamples(t *testing.T) {
	a, c := graphs([]int{3, 2}, []int{3, 3}), graphs([]int{1, 3}, []int{3, 2}, []int{3, 3})
	b, e := Permute(a, []int{1, 0})
	want(t, "Permute", []any{b, e}, []any{graphs([]int{1, 3}, []int{3, 3}), api.OK})
	l, e := Group(a)
	want(t, "Group", []any{l, e}, []any{[][]int{{0, 1}}, api.OK})
	l, _ = Group(c)
	want(t, "Group", l, [][]int{{0, 1}, {1, 0}})
	consensus, _ := library.Consensus(2, 2)
	l, e = Symmetries(api.Problem{Task: consensus, Adversary: c, Rounds: 1})
	want(t, "Symmetries", []any{l, e}, []any{[][]int{{0, 1}, {1, 0}}, api.OK})
	l, _ = Symmetries(api.Problem{Task: consensus, Adversary: a, Rounds: 1})
	want(t, "Symmetries", l, [][]int{{0, 1}})
	crusader, _ := library.Crusader(2, 2)
	l, _ = Symmetries(api.Problem{Task: crusader, Adversary: c, Rounds: 1})
	want(t, "Symmetries", l, [][]int{{0, 1}})
	l, e = Orbits(4, [][]int{{1, 0, 2, 3}})
	want(t, "Orbits", []any{l, e}, []any{[][]int{{0, 1}, {2}, {3}}, api.OK})
	l, _ = Orbits(4, [][]int{{2, 1, 3, 0}})
	want(t, "Orbits", l, [][]int{{0, 2, 3}, {1}})
}

func TestErrors(t *testing.T) {
	a := graphs([]int{3, 2}, []int{3, 3})
	bad := api.Adversary{N: 2}
	consensus, _ := library.Consensus(2, 2)
	three, _ := library.Consensus(3, 2)
	_, e := Group(bad)
	want(t, "Group", e, api.ErrMany)
	for _, x := range []struct {
		a  api.Adversary
		pi []int
		e  api.Errno
	}{{bad, nil, api.ErrMany}, {a, nil, api.ErrRange}, {a, []int{1, 1}, api.ErrTwice}, {a, []int{0}, api.ErrMismatch}} {
		_, e := Permute(x.a, x.pi)
		want(t, "Permute", e, x.e)
		_, e = Invariant(x.a, x.pi)
		want(t, "Invariant", e, x.e)
	}
	for _, x := range []struct {
		p  api.Problem
		pi []int
		e  api.Errno
	}{
		{api.Problem{Adversary: bad}, nil, api.ErrRange}, {api.Problem{Task: consensus, Adversary: bad, Rounds: 9}, nil, api.ErrMany}, {api.Problem{Task: three, Adversary: a, Rounds: 9}, nil, api.ErrMismatch}, {api.Problem{Task: consensus, Adversary: a, Rounds: 7}, nil, api.ErrRange},
		{api.Problem{Task: consensus, Adversary: a, Rounds: -1}, nil, api.ErrRange}, {api.Problem{Task: consensus, Adversary: a}, []int{0, 0}, api.ErrTwice}, {api.Problem{Task: consensus, Adversary: a}, []int{0}, api.ErrMismatch},
	} {
		_, e := Problem(x.p, x.pi)
		want(t, "Problem", e, x.e)
		if x.pi == nil {
			_, e = Symmetries(x.p)
			want(t, "Symmetries", e, x.e)
		}
	}
	for _, x := range []struct {
		n int
		l [][]int
		e api.Errno
	}{{0, nil, api.ErrRange}, {2, [][]int{{0}}, api.ErrMismatch}, {2, make([][]int, 1025), api.ErrMany}, {2, nil, api.OK}} {
		_, e := Orbits(x.n, x.l)
		want(t, "Orbits", e, x.e)
	}
}

func TestConsequences(t *testing.T) {
	crash, _ := failure.Crash(3, 1)
	l := []api.Adversary{crash, graphs([]int{3, 6, 5}, []int{7, 7, 7}), graphs([]int{3, 2, 4}), graphs([]int{1, 2, 5}, []int{1, 6, 4})}
	sizes := []int{6, 3, 1, 1}
	all, _ := permutation.All(3)
	for i, a := range l {
		group, _ := Group(a)
		want(t, "Group", len(group), sizes[i])
		words, _ := adversary.Words(a, 2)
		for _, pi := range all {
			b, _ := Permute(a, pi)
			want(t, "Check", adversary.Check(b), api.OK)
			for _, w := range words {
				renamed := make([]api.Round, len(w))
				for k, r := range w {
					renamed[k], _ = round.Permute(r, pi)
				}
				ok, _ := adversary.Allows(b, renamed)
				want(t, "renamed word", ok, true)
			}
			for _, rho := range all {
				both, _ := permutation.Compose(rho, pi)
				c, _ := Permute(b, rho)
				d, _ := Permute(a, both)
				want(t, "composition", c, d)
			}
		}
		generated, _ := permutation.Generate(3, group)
		want(t, "group", generated, group)
	}
	consensus, _ := library.Consensus(3, 2)
	p := api.Problem{Task: consensus, Adversary: l[1], Rounds: 2}
	renamed, _ := Problem(p, []int{1, 2, 0})
	want(t, "Problem", renamed, p)
}
