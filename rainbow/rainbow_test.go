package rainbow

import (
	"fmt"
	"slices"
	"testing"

	"roundtable/api"
	"roundtable/decide"
	"roundtable/execution"
	"roundtable/failure"
	"roundtable/library"
	"roundtable/task"
)

func want(t *testing.T, what string, got, wanted any) {
	t.Helper()
	if fmt.Sprint(got) != fmt.Sprint(wanted) {
		t.Errorf("%s: got %v, want %v", what, got, wanted)
	}
}

func graphs(l ...[]int) api.Adversary {
	a := api.Adversary{N: len(l[0]), States: [][]api.Move{nil}}
	for _, hears := range l {
		m := api.Move{Round: api.Round{Graph: api.Graph{N: a.N}}}
		copy(m.Round.Graph.Hears[:], hears)
		a.States[0] = append(a.States[0], m)
	}
	return a
}

func example(t *testing.T, rounds int) api.System {
	t.Helper()
	c, _ := library.Consensus(2, 2)
	s, e := execution.Build(api.Problem{Task: c, Adversary: graphs([]int{1, 3}, []int{3, 2}, []int{3, 3}), Rounds: rounds})
	want(t, "Build", e, api.OK)
	return s
}

func TestExamples(t *testing.T) {
	s := example(t, 1)
	relevant, _ := execution.Relevant(s)
	want(t, "Relevant", relevant, []int{2, 3, 4, 5, 7, 8, 9, 11, 12, 13, 14, 15})
	for _, x := range []struct {
		view int
		l    []int
	}{{2, []int{0}}, {9, []int{1}}, {8, []int{0, 1}}} {
		l, e := Values(s, x.view)
		want(t, "Values", []any{l, e}, []any{x.l, api.OK})
	}
	c, ok, e := Find(s, []int{0, 1})
	want(t, "Find", []any{c, ok, e}, []any{api.Certificate{Kind: api.CertificateRainbow, Values: []int{0, 1}, Levels: [][][]int{{{2}}, {{2, 7}, {7, 8}, {8, 9}}}}, true, api.OK})
	want(t, "Verify", Verify(s, c), api.OK)
	any1, ok, e := Any(s)
	want(t, "Any", []any{any1, ok, e}, []any{c, true, api.OK})
	_, ok, e = Find(s, []int{0})
	want(t, "Find", []any{ok, e}, []any{false, api.OK})
	zero := example(t, 0)
	c, ok, _ = Find(zero, []int{0, 1})
	want(t, "Find", []any{ok, Verify(zero, c)}, []any{true, api.OK})
	l, e := Labels(s, []int{1})
	want(t, "Labels", []any{l[0], l[5], l[6], e}, []any{2, 3, 1, api.OK})
	l, _ = Labels(s, []int{1, 0})
	want(t, "Labels", []int{l[0], l[5], l[6]}, []int{2, 3, 1})
}

func TestErrors(t *testing.T) {
	s := example(t, 1)
	bad := s
	bad.Executions = nil
	_, e := Values(bad, 99)
	want(t, "Values", e, api.ErrForm)
	_, _, e = Any(bad)
	want(t, "Any", e, api.ErrForm)
	want(t, "Verify", Verify(bad, api.Certificate{}), api.ErrForm)
	_, e = Count(bad, api.Certificate{}, nil)
	want(t, "Count", e, api.ErrForm)
	for _, x := range []struct {
		view int
		e    api.Errno
	}{{-1, api.ErrNone}, {16, api.ErrNone}, {0, api.ErrUse}} {
		_, e = Values(s, x.view)
		want(t, "Values", e, x.e)
	}
	for _, x := range []struct {
		s api.System
		l []int
		e api.Errno
	}{{bad, nil, api.ErrForm}, {s, nil, api.ErrMany}, {s, []int{0, 1, 2, 3, 4, 5}, api.ErrMany}, {s, []int{0, 2, 0}, api.ErrRange}, {s, []int{0, 0, 2}, api.ErrTwice}, {s, []int{-1}, api.ErrRange}} {
		_, e = Labels(x.s, x.l)
		want(t, "Labels", e, x.e)
		_, _, e = Find(x.s, x.l)
		want(t, "Find", e, x.e)
		if x.e != api.ErrForm {
			want(t, "Verify", Verify(s, api.Certificate{Kind: api.CertificateRainbow, Values: x.l}), x.e)
		}
	}
	good, _, _ := Find(s, []int{0, 1})
	for i, x := range []struct {
		change func(c *api.Certificate)
		e      api.Errno
	}{
		{func(c *api.Certificate) {}, api.OK}, {func(c *api.Certificate) { c.Kind = api.CertificateWalk; c.Walk = make([]api.Link, 1) }, api.ErrArg}, {func(c *api.Certificate) { c.Walk = make([]api.Link, 1); c.Values = nil }, api.ErrForm}, {func(c *api.Certificate) { c.Proof = [][]int{{}} }, api.ErrForm}, {func(c *api.Certificate) { c.Levels = c.Levels[:1] }, api.ErrShape},
		{func(c *api.Certificate) { c.Levels[0] = [][]int{{2, 7}} }, api.ErrShape}, {func(c *api.Certificate) { c.Levels[1] = [][]int{{16, 2}} }, api.ErrRange}, {func(c *api.Certificate) { c.Levels[1] = [][]int{{7, 2}} }, api.ErrOrder}, {func(c *api.Certificate) { c.Levels[1] = [][]int{{2, 2}} }, api.ErrOrder}, {func(c *api.Certificate) { c.Levels[1] = [][]int{{2, 9}} }, api.ErrNone}, {func(c *api.Certificate) { c.Levels[0] = [][]int{{0}} }, api.ErrNone},
		{func(c *api.Certificate) { c.Levels[1] = [][]int{{7, 8}, {2, 7}} }, api.ErrOrder}, {func(c *api.Certificate) { c.Levels[1] = [][]int{{7, 8}, {7, 8}} }, api.ErrOrder}, {func(c *api.Certificate) { c.Levels[1] = c.Levels[1][1:] }, api.ErrProof}, {func(c *api.Certificate) { c.Levels[0] = nil }, api.ErrProof}, {func(c *api.Certificate) { c.Levels[0] = [][]int{{9}} }, api.ErrProof}, {func(c *api.Certificate) { c.Values = []int{1, 0} }, api.ErrProof},
	} {
		c := good
		c.Levels = slices.Clone(good.Levels)
		x.change(&c)
		want(t, fmt.Sprint("Verify ", i), Verify(s, c), x.e)
		_, e := Count(s, c, nil)
		if x.e != api.OK {
			want(t, fmt.Sprint("Count ", i), e, x.e)
		}
	}
	for _, x := range []struct {
		out []int
		e   api.Errno
	}{{nil, api.ErrShape}, {[]int{0, 0, 0, 0, 0, 0, 0, 0, 0, 0, 0, 2}, api.ErrRange}, {[]int{0, 0, 0, 0, 0, 0, 0, 0, 0, 0, 0, -1}, api.ErrRange}, {make([]int, 12), api.OK}} {
		_, e := Count(s, good, x.out)
		want(t, "Count", e, x.e)
	}
	n, _ := Count(s, good, []int{0, 0, 0, 0, 0, 1, 1, 0, 0, 0, 0, 0})
	want(t, "Count", n, 1)
	eight, _ := library.SetAgreement(4, 8, 4)
	eight, _ = task.Restrict(eight, []int{0})
	want(t, "Restrict", len(eight.Cases), 0)
	five := api.Task{N: 5, Ins: 1, Outs: 8, Cases: []api.Case{{In: make([]int, 5), Out: [][]int{{0, 1, 2, 3, 4}}}}}
	single, _ := execution.Build(api.Problem{Task: five, Adversary: graphs([]int{1, 2, 4, 8, 16})})
	_, _, e = Any(single)
	want(t, "Any", e, api.ErrLimit)
	_, ok, e := Find(single, []int{0, 1, 2, 3, 4})
	want(t, "Find", []any{ok, e}, []any{false, api.OK})
}

func TestConsequences(t *testing.T) {
	consensus, _ := library.Consensus(2, 2)
	three, _ := library.Consensus(3, 2)
	set, _ := library.SetAgreement(3, 3, 2)
	set, _ = task.Restrict(set, []int{5})
	all, _ := library.SetAgreement(3, 3, 2)
	crash, _ := failure.Crash(3, 1)
	snapshot, _ := failure.Snapshot(3)
	lossy := graphs([]int{1, 3}, []int{3, 2}, []int{3, 3})
	for i, p := range []api.Problem{{Task: consensus, Adversary: lossy, Rounds: 2}, {Task: consensus, Adversary: graphs([]int{3, 3}), Rounds: 1}, {Task: three, Adversary: crash, Rounds: 1}, {Task: set, Adversary: snapshot, Rounds: 1}, {Task: all, Adversary: snapshot, Rounds: 0}} {
		s, e := execution.Build(p)
		want(t, "Build", e, api.OK)
		c, ok, e := Any(s)
		want(t, fmt.Sprint("Any ", i), e, api.OK)
		verdict, _, _, _ := decide.Decide(p)
		if ok {
			want(t, fmt.Sprint("verdict ", i), []any{verdict, Verify(s, c)}, []any{api.VerdictNo, api.OK})
		}
		want(t, fmt.Sprint("found ", i), ok, i != 1 && i != 3)
		if !ok {
			continue
		}
		relevant, _ := execution.Relevant(s)
		seed := uint32(i)
		for range 300 {
			var out []int
			for _, view := range relevant {
				l, _ := Values(s, view)
				seed = seed*1664525 + 1013904223
				out = append(out, l[int(seed>>16)%len(l)])
				if len(relevant) > 40 {
					break
				}
			}
			if len(out) < len(relevant) {
				break
			}
			n, e := Count(s, c, out)
			want(t, "Count", []any{n % 2, e}, []any{1, api.OK})
		}
	}
}
