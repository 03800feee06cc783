package inclusion

import (
	"fmt"
	"testing"

	"roundtable/adversary"
	"roundtable/api"
	"roundtable/canonical"
	"roundtable/failure"
)

func want(t *testing.T, what string, got, wanted any) {
	t.Helper()
	if fmt.Sprint(got) != fmt.Sprint(wanted) {
		t.Errorf("%s: got %v, want %v", what, got, wanted)
	}
}

func letter(hears ...int) api.Round {
	r := api.Round{Graph: api.Graph{N: len(hears)}}
	copy(r.Graph.Hears[:], hears)
	return r
}

func examples() (a, b api.Adversary) {
	x, y := letter(3, 2), letter(3, 3)
	return api.Adversary{N: 2, States: [][]api.Move{{{Round: x}, {Round: y}}}}, api.Adversary{N: 2, States: [][]api.Move{{{Round: y, To: 1}}, {{Round: x, To: 1}, {Round: y, To: 1}}}}
}

func TestExamples(t *testing.T) {
	a, b := examples()
	w, ok, e := Includes(a, b)
	want(t, "Includes", []any{w, ok, e}, []any{[]api.Round{}, true, api.OK})
	p, ok, e := Simulation(a, b)
	want(t, "Simulation", []any{p, ok, e}, []any{[][2]int{{0, 0}, {1, 0}}, true, api.OK})
	w, ok, _ = Includes(b, a)
	want(t, "Includes", []any{w, ok}, []any{[]api.Round{letter(3, 2)}, false})
	p, ok, _ = Simulation(b, a)
	want(t, "Simulation", []any{p, ok}, []any{[][2]int{}, false})
	w, ok, _ = Equivalent(a, b)
	want(t, "Equivalent", []any{w, ok}, []any{[]api.Round{letter(3, 2)}, false})
	for rounds, number := range []int{0, 1, 2, 4, 8, 16, 32} {
		n, e := Extra(b, a, rounds)
		want(t, "Extra", []any{n, e}, []any{number, api.OK})
		n, _ = Extra(a, b, rounds)
		want(t, "Extra", n, 0)
	}
	for i, x := range []struct {
		pairs [][2]int
		e     api.Errno
	}{{[][2]int{{0, 0}}, api.ErrProof}, {nil, api.ErrProof}, {[][2]int{{1, 0}}, api.ErrProof}, {[][2]int{{1, 0}, {0, 0}, {1, 0}}, api.OK}, {[][2]int{{0, 0}, {0, 1}}, api.ErrRange}, {[][2]int{{2, 0}}, api.ErrRange}, {[][2]int{{-1, 0}}, api.ErrRange}, {make([][2]int, api.MaxSteps+1), api.ErrMany}, {make([][2]int, api.MaxSteps), api.ErrProof}} {
		want(t, fmt.Sprint("Verify ", i), Verify(a, b, x.pairs), x.e)
	}
}

func TestErrors(t *testing.T) {
	a, _ := examples()
	three := api.Adversary{N: 3, States: [][]api.Move{{{Round: letter(1, 2, 4)}}}}
	for _, x := range []struct {
		a, b api.Adversary
		e    api.Errno
	}{{api.Adversary{}, api.Adversary{N: 1}, api.ErrRange}, {a, api.Adversary{N: 1}, api.ErrMany}, {a, three, api.ErrMismatch}} {
		_, _, e := Includes(x.a, x.b)
		want(t, "Includes", e, x.e)
		_, _, e = Simulation(x.a, x.b)
		want(t, "Simulation", e, x.e)
		want(t, "Verify", Verify(x.a, x.b, make([][2]int, api.MaxSteps+1)), x.e)
		_, _, e = Equivalent(x.a, x.b)
		want(t, "Equivalent", e, x.e)
		_, e = Extra(x.a, x.b, 9)
		want(t, "Extra", e, x.e)
	}
	for _, rounds := range []int{-1, 7} {
		_, e := Extra(a, a, rounds)
		want(t, "Extra", e, api.ErrRange)
	}
	truth := api.Expr{Op: api.ExprEqual, Args: []api.Expr{{}, {}}}
	all, _ := failure.Graphs(4, truth)
	crash, _ := failure.Crash(4, 0)
	n, e := Extra(crash, all, 1)
	want(t, "Extra", []any{n, e}, []any{4095, api.OK})
	_, e = Extra(crash, all, 2)
	want(t, "Extra", e, api.ErrLimit)
}

func TestConsequences(t *testing.T) {
	var l []api.Adversary
	for _, build := range []func(n, f int) (api.Adversary, api.Errno){failure.Crash, failure.Send, failure.Receive, failure.Omit, failure.Partition} {
		for f := range 3 {
			a, _ := build(2, f)
			l = append(l, a)
		}
	}
	for _, a := range l {
		for _, b := range l {
			w, ok, _ := Includes(a, b)
			pairs, simulated, _ := Simulation(a, b)
			extra, _ := Extra(a, b, 3)
			want(t, "Simulation", simulated, ok)
			want(t, "Verify", Verify(a, b, pairs) == api.OK, ok)
			if ok {
				want(t, "Extra", extra, 0)
			} else {
				in, _ := adversary.Allows(a, w)
				of, _ := adversary.Allows(b, w)
				before, _ := adversary.Allows(a, w[:len(w)-1])
				want(t, "word", []bool{in, of, before}, []bool{false, true, true})
			}
			_, back, _ := Includes(b, a)
			word, same, _ := Equivalent(a, b)
			equal, _ := canonical.Equal(a, b)
			want(t, "Equivalent", []bool{same, len(word) == 0}, []bool{ok && back, equal})
			words, _ := adversary.Words(b, 3)
			number := 0
			for _, w := range words {
				if in, _ := adversary.Allows(a, w); !in {
					number++
				}
			}
			want(t, "Extra", extra, number)
		}
	}
}
