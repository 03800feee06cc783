package canonical

import (
	"fmt"
	"slices"
	"testing"

	"roundtable/adversary"
	"roundtable/api"
	"roundtable/combine"
	"roundtable/failure"
	"roundtable/inclusion"
)

func want(t *testing.T, what string, got, wanted any) {
	t.Helper()
	if fmt.Sprint(got) != fmt.Sprint(wanted) {
		t.Errorf("%s: got %v, want %v", what, got, wanted)
	}
}

var s, c = api.Round{Graph: api.Graph{N: 2, Hears: [5]int{1, 2}}}, api.Round{Graph: api.Graph{N: 2, Hears: [5]int{3, 3}}}

func example() api.Adversary {
	return api.Adversary{N: 2, States: [][]api.Move{{{Round: s, To: 2}, {Round: c, To: 1}}, {{Round: s, To: 1}, {Round: c, To: 2}}, {{Round: c, To: 1}}}}
}

func TestExamples(t *testing.T) {
	a := example()
	w, found, e := Distinguish(a, 0, 2)
	want(t, "Distinguish", []any{w, found, e}, []any{[]api.Round{s}, true, api.OK})
	w, found, _ = Distinguish(a, 0, 1)
	want(t, "Distinguish", []any{w, found}, []any{[]api.Round{s, s}, true})
	w, found, _ = Distinguish(a, 1, 1)
	want(t, "Distinguish", []any{w, found}, []any{[]api.Round{}, false})
	is, _ := Is(a)
	want(t, "Is", is, false)
	b, e := Canonical(a)
	want(t, "Canonical", []any{b, e}, []any{api.Adversary{N: 2, States: [][]api.Move{{{Round: s, To: 1}, {Round: c, To: 2}}, {{Round: c, To: 2}}, {{Round: s, To: 2}, {Round: c, To: 1}}}}, api.OK})
	is, _ = Is(b)
	want(t, "Is", is, true)
	p, e := Prove(b)
	want(t, "Prove", []any{p, e}, []any{[][]api.Round{{s}, {c}, {s}, {s, s}, {s}}, api.OK})
	want(t, "Verify", Verify(b, p), api.OK)
	more := example()
	more.States = append(more.States, slices.Clone(more.States[1]))
	more.States[2][0].To = 3
	l, e := Classes(more)
	want(t, "Classes", []any{l, e}, []any{[]int{0, 1, 2, 1}, api.OK})
	other, _ := Canonical(more)
	want(t, "Canonical", other, b)
	equal, e := Equal(a, more)
	want(t, "Equal", []any{equal, e}, []any{true, api.OK})
	_, e = Prove(more)
	want(t, "Prove", e, api.ErrForm)
}

func TestErrors(t *testing.T) {
	a := example()
	bad := api.Adversary{N: 2}
	_, e := Classes(bad)
	want(t, "Classes", e, api.ErrMany)
	_, e = Canonical(bad)
	want(t, "Canonical", e, api.ErrMany)
	_, e = Is(bad)
	want(t, "Is", e, api.ErrMany)
	_, e = Equal(a, bad)
	want(t, "Equal", e, api.ErrMany)
	_, e = Equal(bad, api.Adversary{})
	want(t, "Equal", e, api.ErrMany)
	one, _ := failure.Crash(1, 1)
	_, e = Equal(a, one)
	want(t, "Equal", e, api.ErrMismatch)
	_, _, e = Distinguish(bad, 9, 9)
	want(t, "Distinguish", e, api.ErrMany)
	_, e = Prove(bad)
	want(t, "Prove", e, api.ErrMany)
	want(t, "Verify", Verify(bad, nil), api.ErrMany)
	for _, x := range [][2]int{{-1, 0}, {0, 3}} {
		_, _, e = Distinguish(a, x[0], x[1])
		want(t, "Distinguish", e, api.ErrNone)
	}
	unreachable := example()
	unreachable.States = append(unreachable.States, []api.Move{{Round: s, To: 0}})
	_, e = Prove(unreachable)
	want(t, "Prove", e, api.ErrForm)
	ring := api.Adversary{N: 2}
	for k := range 45 {
		ring.States = append(ring.States, []api.Move{{Round: c, To: (k + 1) % 45}})
	}
	ring.States[44] = []api.Move{{Round: s, To: 44}}
	_, e = Prove(ring)
	want(t, "Prove", e, api.ErrLimit)
	ring.States = ring.States[1:]
	for k := range 43 {
		ring.States[k] = []api.Move{{Round: c, To: k + 1}}
	}
	ring.States[43] = []api.Move{{Round: s, To: 43}}
	p, e := Prove(ring)
	want(t, "Prove", []any{len(p), e, Verify(ring, p)}, []any{989, api.OK, api.OK})
	p, _ = Prove(a)
	want(t, "Verify", Verify(a, p[1:]), api.ErrShape)
	for i := range p {
		wrong := slices.Clone(p)
		wrong[i] = nil
		want(t, "Verify", Verify(a, wrong), api.ErrProof)
		wrong[i] = []api.Round{{Faulty: 99}}
		want(t, "Verify", Verify(a, wrong), api.ErrProof)
	}
}

func TestConsequences(t *testing.T) {
	crash, _ := failure.Crash(3, 1)
	send, _ := failure.Send(3, 1)
	omit, _ := failure.Omit(2, 2)
	snapshot, _ := failure.Snapshot(3)
	or, _ := combine.Or(crash, send)
	and, _ := combine.And(crash, send)
	then, _ := combine.Then(send, 2, snapshot)
	l := []api.Adversary{crash, send, or, and, then, snapshot, omit, example()}
	for _, a := range l {
		b, _ := Canonical(a)
		again, _ := Canonical(b)
		want(t, "Canonical", again, b)
		classes, _ := Classes(a)
		reachable, _ := adversary.Reachable(a)
		different := map[int]bool{}
		for _, state := range reachable {
			different[classes[state]] = true
		}
		want(t, "states", len(b.States), len(different))
		for k := range 3 {
			m, _ := adversary.Count(a, k)
			n, _ := adversary.Count(b, k)
			want(t, "words", n, m)
		}
		p, e := Prove(b)
		want(t, "Prove", []any{e, Verify(b, p)}, []any{api.OK, api.OK})
		doubled := api.Adversary{N: a.N}
		for copied := range 2 {
			for _, state := range a.States {
				moves := slices.Clone(state)
				for i := range moves {
					moves[i].To += (copied + i) % 2 * len(a.States)
				}
				doubled.States = append(doubled.States, moves)
			}
		}
		split, _ := Canonical(doubled)
		want(t, "split states", split, b)
		for _, other := range l {
			if equal, e := Equal(a, other); e == api.OK {
				word, _, _ := inclusion.Equivalent(a, other)
				x, _ := adversary.Allows(a, word)
				y, _ := adversary.Allows(other, word)
				want(t, "Equal", equal, x == y)
			}
		}
	}
}
