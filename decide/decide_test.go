package decide

import (
	"fmt"
	"testing"

	"roundtable/api"
	"roundtable/execution"
	"roundtable/failure"
	"roundtable/library"
	"roundtable/rule"
	"roundtable/task"
)

func want(t *testing.T, what string, got, wanted any) {
	t.Helper()
	if fmt.Sprint(got) != fmt.Sprint(wanted) {
		t.Errorf("%s: got %v, want %v", what, got, wanted)
	}
}

// problem returns the consensus of 2 processes under some graphs.
func problem(rounds int, graphs ...[2]int) api.Problem {
	c, _ := library.Consensus(2, 2)
	a := api.Adversary{N: 2, States: [][]api.Move{nil}}
	for _, g := range graphs {
		a.States[0] = append(a.States[0], api.Move{Round: api.Round{Graph: api.Graph{N: 2, Hears: [5]int{g[0], g[1]}}}})
	}
	return api.Problem{Task: c, Adversary: a, Rounds: rounds}
}

func TestExamples(t *testing.T) {
	lossy := problem(1, [2]int{1, 3}, [2]int{3, 2}, [2]int{3, 3})
	v, r, proof, e := Decide(lossy)
	want(t, "Decide", []any{v, len(r.Out), e, Verify(lossy, v, r, proof)}, []any{api.VerdictNo, 0, api.OK, api.OK})
	_, e = Rounds(lossy)
	want(t, "Rounds", e, api.ErrNone)
	n, e := Solutions(lossy)
	want(t, "Solutions", []any{n, e}, []any{0, api.OK})
	complete := problem(1, [2]int{3, 3})
	v, r, proof, e = Decide(complete)
	want(t, "Decide", []any{v, len(proof), e, Verify(complete, v, r, proof)}, []any{api.VerdictYes, 0, api.OK, api.OK})
	n, e = Rounds(complete)
	want(t, "Rounds", []any{n, e}, []any{1, api.OK})
	complete.Rounds = 0
	v, _, _, _ = Decide(complete)
	want(t, "Decide", v, api.VerdictNo)
	half := problem(1, [2]int{1, 3}, [2]int{3, 3})
	half.Task, _ = task.Restrict(half.Task, []int{0, 1})
	n, e = Solutions(half)
	want(t, "Solutions", []any{n, e}, []any{1, api.OK})
	v, r, _, _ = Decide(half)
	want(t, "Decide", []any{v, r}, []any{api.VerdictYes, api.Rule{Out: make([]int, 8)}})
	half.Rounds = 0
	n, e = Rounds(half)
	want(t, "Rounds", []any{n, e}, []any{0, api.OK})
}

func TestErrors(t *testing.T) {
	p := problem(1, [2]int{3, 3})
	bad := p
	bad.Rounds = 7
	_, _, _, e := Decide(bad)
	want(t, "Decide", e, api.ErrRange)
	want(t, "Verify", Verify(bad, 9, api.Rule{}, nil), api.ErrRange)
	_, e = Rounds(bad)
	want(t, "Rounds", e, api.ErrRange)
	_, e = Solutions(bad)
	want(t, "Solutions", e, api.ErrRange)
	_, good, _, _ := Decide(p)
	wrong := api.Rule{Out: append([]int{}, good.Out...)}
	s, _ := execution.Build(p)
	for v := range wrong.Out {
		wrong.Out[v] = 0
	}
	for i, x := range []struct {
		verdict int
		r       api.Rule
		proof   [][]int
		e       api.Errno
	}{
		{api.VerdictUnknown, good, nil, api.ErrArg}, {3, api.Rule{}, nil, api.ErrArg}, {api.VerdictYes, api.Rule{}, [][]int{{}}, api.ErrForm}, {api.VerdictYes, api.Rule{}, nil, api.ErrShape}, {api.VerdictYes, wrong, nil, api.ErrProof}, {api.VerdictYes, good, nil, api.OK},
		{api.VerdictNo, good, nil, api.ErrForm}, {api.VerdictNo, api.Rule{}, nil, api.ErrProof}, {api.VerdictNo, api.Rule{}, [][]int{{}}, api.ErrProof}, {api.VerdictNo, api.Rule{}, [][]int{{0}}, api.ErrRange},
	} {
		want(t, fmt.Sprint("Verify ", i), Verify(p, x.verdict, x.r, x.proof), x.e)
	}
	ok, _, _ := rule.Solves(s, wrong)
	want(t, "Solves", ok, false)
	big, _ := library.SetAgreement(4, 3, 4)
	crash, _ := failure.Crash(4, 1)
	_, e = Solutions(api.Problem{Task: big, Adversary: crash, Rounds: 1})
	want(t, "Solutions", e, api.ErrLimit)
	many, _ := library.SetAgreement(3, 8, 3)
	_, _, _, e = Decide(api.Problem{Task: many, Adversary: crash, Rounds: 1})
	want(t, "Decide", e, api.ErrMismatch)
}

func TestConsequences(t *testing.T) {
	consensus, _ := library.Consensus(3, 2)
	set, _ := library.SetAgreement(3, 3, 2)
	commit, _ := library.Commit(3)
	for _, c := range []api.Task{consensus, set, commit} {
		for f := range 3 {
			crash, _ := failure.Crash(3, f)
			for rounds := range 3 {
				p := api.Problem{Task: c, Adversary: crash, Rounds: rounds}
				if n, _ := execution.Count(p); n > 1500 {
					continue
				}
				v, r, proof, e := Decide(p)
				want(t, "Decide", []any{e, Verify(p, v, r, proof)}, []any{api.OK, api.OK})
				if c.N == 3 && c.Ins == 2 && c.Outs == 2 && len(c.Cases[0].Calm) == 0 {
					// Consensus needs one round more than crashes, as far as there are executions without faults.
					want(t, fmt.Sprint("consensus ", f, rounds), v == api.VerdictYes, rounds > min(f, 1) || rounds > f)
				}
				least, e := Rounds(p)
				want(t, "Rounds", []any{e == api.OK && least <= rounds}, []any{v == api.VerdictYes})
				if n, e := Solutions(p); e == api.OK {
					want(t, "Solutions", n > 0, v == api.VerdictYes)
				}
			}
		}
	}
}
