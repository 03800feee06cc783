package walk

import (
	"fmt"
	"slices"
	"testing"

	"roundtable/api"
	"roundtable/decide"
	"roundtable/execution"
	"roundtable/failure"
	"roundtable/indistinct"
	"roundtable/library"
	"roundtable/rule"
	"roundtable/task"
)

func want(t *testing.T, what string, got, wanted any) {
	t.Helper()
	if fmt.Sprint(got) != fmt.Sprint(wanted) {
		t.Errorf("%s: got %v, want %v", what, got, wanted)
	}
}

// system returns the system of the consensus of 2 processes with the inputs 0 0, 0 1 and 1 1 under some graphs.
func system(t *testing.T, rounds int, graphs ...[2]int) api.System {
	t.Helper()
	c, _ := library.Consensus(2, 2)
	c, _ = task.Restrict(c, []int{0, 1, 3})
	a := api.Adversary{N: 2, States: [][]api.Move{nil}}
	for _, g := range graphs {
		a.States[0] = append(a.States[0], api.Move{Round: api.Round{Graph: api.Graph{N: 2, Hears: [5]int{g[0], g[1]}}}})
	}
	s, e := execution.Build(api.Problem{Task: c, Adversary: a, Rounds: rounds})
	want(t, "Build", e, api.OK)
	return s
}

func link(e, p int) api.Link { return api.Link{Execution: e, Proc: p} }

func TestExamples(t *testing.T) {
	s := system(t, 1, [2]int{1, 3}, [2]int{3, 3})
	for e, l := range [][]int{{0}, {0}, {0, 1}, {0, 1}, {1}, {1}} {
		v, err := Values(s, e)
		want(t, "Values", []any{v, err}, []any{l, api.OK})
	}
	l, e := Choice(s)
	want(t, "Choice", []any{l, e}, []any{[]int{0, 0, 0, 0, 1, 1}, api.OK})
	r, ok, e := Rule(s)
	solves, _, _ := rule.Solves(s, r)
	want(t, "Rule", []any{ok, solves, e}, []any{true, true, api.OK})
	_, ok, e = Find(s)
	want(t, "Find", []any{ok, e}, []any{false, api.OK})
	lossy := system(t, 1, [2]int{1, 3}, [2]int{3, 2}, [2]int{3, 3})
	l, _ = Choice(lossy)
	want(t, "Choice", l, []int{-1, -1, -1, -1, -1, -1, -1, -1, -1})
	r, ok, _ = Rule(lossy)
	want(t, "Rule", []any{r, ok}, []any{api.Rule{}, false})
	c, ok, e := Find(lossy)
	want(t, "Find", []any{c.Walk[0], lossy.Executions[c.Walk[len(c.Walk)-1].Execution].Case, ok, e, Verify(lossy, c)}, []any{link(0, -1), 2, true, api.OK, api.OK})
	zero := system(t, 0, [2]int{3, 3})
	c, _, _ = Find(zero)
	want(t, "Find", c, api.Certificate{Kind: api.CertificateWalk, Walk: []api.Link{link(0, -1), link(1, 0), link(2, 1)}})
	d, e := Shorten(zero, c)
	want(t, "Shorten", []any{d, e}, []any{c, api.OK})
	c.Walk = []api.Link{link(1, -1), link(0, 0), link(1, 0), link(2, 1), link(1, 1)}
	d, e = Shorten(zero, c)
	want(t, "Shorten", []any{d.Walk, e}, []any{[]api.Link{link(0, -1), link(1, 0), link(2, 1)}, api.OK})
}

func TestErrors(t *testing.T) {
	s := system(t, 0, [2]int{3, 3})
	bad := s
	bad.Executions = nil
	set, _ := library.SetAgreement(2, 2, 2)
	other, _ := execution.Build(api.Problem{Task: set, Adversary: s.Problem.Adversary})
	for _, x := range []struct {
		s api.System
		e api.Errno
	}{{bad, api.ErrForm}, {other, api.ErrUse}} {
		_, e := Values(x.s, 99)
		want(t, "Values", e, x.e)
		_, e = Choice(x.s)
		want(t, "Choice", e, x.e)
		_, _, e = Rule(x.s)
		want(t, "Rule", e, x.e)
		_, _, e = Find(x.s)
		want(t, "Find", e, x.e)
		want(t, "Verify", Verify(x.s, api.Certificate{}), x.e)
		_, e = Shorten(x.s, api.Certificate{})
		want(t, "Shorten", e, x.e)
	}
	for _, i := range []int{-1, 3} {
		_, e := Values(s, i)
		want(t, "Values", e, api.ErrNone)
	}
	walk := []api.Link{link(0, -1), link(1, 0), link(2, 1)}
	for i, x := range []struct {
		c api.Certificate
		e api.Errno
	}{
		{api.Certificate{Kind: api.CertificateRainbow, Values: []int{1}}, api.ErrArg}, {api.Certificate{Kind: api.CertificateWalk, Walk: walk, Values: []int{1}}, api.ErrForm}, {api.Certificate{Kind: api.CertificateWalk, Walk: walk, Levels: make([][][]int, 1)}, api.ErrForm}, {api.Certificate{Kind: api.CertificateWalk, Proof: make([][]int, 1)}, api.ErrForm},
		{api.Certificate{Kind: api.CertificateWalk}, api.ErrEmpty}, {api.Certificate{Kind: api.CertificateWalk, Walk: []api.Link{link(0, -1), link(2, 0)}}, api.ErrProof}, {api.Certificate{Kind: api.CertificateWalk, Walk: walk[:2]}, api.ErrProof}, {api.Certificate{Kind: api.CertificateWalk, Walk: walk}, api.OK},
	} {
		want(t, fmt.Sprint("Verify ", i), Verify(s, x.c), x.e)
		_, e := Shorten(s, x.c)
		want(t, fmt.Sprint("Shorten ", i), e, x.e)
	}
}

func TestConsequences(t *testing.T) {
	consensus, _ := library.Consensus(3, 2)
	commit, _ := library.Commit(3)
	for _, c := range []api.Task{consensus, commit} {
		for _, build := range []func(n, f int) (api.Adversary, api.Errno){failure.Crash, failure.Send, failure.Partition} {
			for f := range 2 {
				a, _ := build(3, f)
				for rounds := range 3 {
					p := api.Problem{Task: c, Adversary: a, Rounds: rounds}
					if n, _ := execution.Count(p); n > 1000 {
						continue
					}
					s, _ := execution.Build(p)
					r, ok, _ := Rule(s)
					cert, found, _ := Find(s)
					verdict, _, _, _ := decide.Decide(p)
					want(t, "verdict", []bool{ok, !found}, []bool{verdict == api.VerdictYes, verdict == api.VerdictYes})
					if ok {
						solves, _, e := rule.Solves(s, r)
						want(t, "Rule", []any{solves, e}, []any{true, api.OK})
						continue
					}
					want(t, "Verify", Verify(s, cert), api.OK)
					found1 := tourOf(s)
					want(t, "walk found", cert.Walk, found1)
					short, e := Shorten(s, cert)
					want(t, "Shorten", []any{e, Verify(s, short)}, []any{api.OK, api.OK})
					if len(cert.Walk) < 12 {
						want(t, "Shorten", short.Walk, shortened(s, cert.Walk))
					}
					less := api.Certificate{Kind: api.CertificateWalk, Walk: short.Walk[:len(short.Walk)-1]}
					want(t, "shortened", Verify(s, less), api.ErrProof)
					again, _ := Shorten(s, short)
					want(t, "shortened twice", again, short)
				}
			}
		}
	}
}

// tourOf returns the walk found, by exported functions.
func tourOf(s api.System) []api.Link {
	choice, _ := Choice(s)
	labels, _ := indistinct.Components(s)
	first := slices.Index(choice, -1)
	walk := []api.Link{link(first, -1)}
	at := first
	for e := first + 1; e < len(labels); e++ {
		if labels[e] != labels[first] {
			continue
		}
		leg, _, _ := indistinct.Walk(s, at, e)
		for _, l := range leg[1:] {
			walk = append(walk, l)
			common := []int{0, 1}
			for _, x := range walk {
				v, _ := Values(s, x.Execution)
				common = slices.DeleteFunc(common, func(value int) bool { return !slices.Contains(v, value) })
			}
			if len(common) == 0 {
				return walk
			}
		}
		at = e
	}
	return walk
}

// shortened shortens a contradictory walk by the definition.
func shortened(s api.System, walk []api.Link) []api.Link {
	contradicts := func(l []api.Link) bool {
		return Verify(s, api.Certificate{Kind: api.CertificateWalk, Walk: l}) == api.OK
	}
	for {
		var candidates [][]api.Link
		candidates = append(candidates, walk[:len(walk)-1])
		first := slices.Clone(walk[1:])
		if len(first) > 0 {
			first[0].Proc = -1
		}
		candidates = append(candidates, first)
		for i := range walk {
			for k := len(walk) - 1; k >= i+2; k-- {
				l := slices.Concat(walk[:i+1], walk[k:])
				set, _ := indistinct.Linked(s, walk[i].Execution, walk[k].Execution)
				for p := 4; p >= 0; p-- {
					if set>>p&1 == 1 {
						l[i+1].Proc = p
					}
				}
				if set != 0 {
					candidates = append(candidates, l)
				}
			}
		}
		next := slices.IndexFunc(candidates, contradicts)
		if next < 0 {
			return walk
		}
		walk = candidates[next]
	}
}
