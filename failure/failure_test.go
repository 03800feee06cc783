package failure

import (
	"fmt"
	"testing"

	"roundtable/adversary"
	"roundtable/api"
	"roundtable/graph"
	"roundtable/permutation"
	"roundtable/round"
)

func want(t *testing.T, what string, got, wanted any) {
	t.Helper()
	if fmt.Sprint(got) != fmt.Sprint(wanted) {
		t.Errorf("%s: got %v, want %v", what, got, wanted)
	}
}

// moves returns the texts of the moves of a state.
func moves(a api.Adversary, state int) []string {
	var l []string
	for _, m := range a.States[state] {
		s, _ := round.Format(a.N, []api.Round{m.Round})
		l = append(l, fmt.Sprint(s, " > ", m.To))
	}
	return l
}

func TestExamples(t *testing.T) {
	a, e := Crash(2, 1)
	want(t, "Crash", []any{len(a.States), e}, []any{3, api.OK})
	want(t, "Crash", moves(a, 0), "[0 1 !0 > 1 0 1 !1 > 2 0 01 !0 > 1 01 1 !1 > 2 01 01 > 0]")
	want(t, "Crash", moves(a, 1), "[0 1 !0 > 1]")
	a, e = Send(2, 1)
	want(t, "Send", []any{len(a.States), e}, []any{3, api.OK})
	want(t, "Send", moves(a, 0), "[0 01 !1 > 1 01 1 !0 > 2 01 01 > 0]")
	want(t, "Send", moves(a, 2), "[01 1 !0 > 2 01 01 !0 > 2]")
	a, _ = Partition(3, 1)
	want(t, "Partition", moves(a, 0), "[0 1 2 > 1 0 12 12 > 1 01 01 2 > 1 02 1 02 > 1 012 012 012 > 0]")
	want(t, "Partition", moves(a, 1), "[012 012 012 > 1]")
	a, _ = Snapshot(2)
	want(t, "Snapshot", moves(a, 0), "[0 01 > 0 01 1 > 0 01 01 > 0]")
	for n, size := range []int{0, 1, 3, 13, 75, 541} {
		if n > 0 {
			a, _ = Snapshot(n)
			want(t, "Snapshot", len(a.States[0]), size)
			a, _ = Crash(n, 1)
			want(t, "Crash", len(a.States[0]), 1+n<<(n-1))
		}
	}
}

func TestErrors(t *testing.T) {
	truth := api.Expr{Op: api.ExprEqual, Args: []api.Expr{{}, {}}}
	never := api.Expr{Op: api.ExprLess, Args: []api.Expr{{}, {}}}
	for i, x := range []struct {
		n int
		s api.Scheme
		e api.Errno
	}{
		{0, api.Scheme{Op: 99}, api.ErrRange}, {6, api.Scheme{Op: api.SchemeSnapshot}, api.ErrRange}, {2, api.Scheme{Op: api.SchemeRef}, api.ErrArg}, {2, api.Scheme{Op: api.SchemeOr}, api.ErrArg}, {2, api.Scheme{Op: -1}, api.ErrArg},
		{2, api.Scheme{Op: api.SchemeCrash, Num: 3, Args: make([]api.Scheme, 1)}, api.ErrForm}, {2, api.Scheme{Op: api.SchemeCrash, Cond: truth, Num: 9}, api.ErrForm}, {2, api.Scheme{Op: api.SchemeSnapshot, Num: 1}, api.ErrForm}, {2, api.Scheme{Op: api.SchemeGraphs, Num: 1, Cond: truth}, api.ErrForm},
		{2, api.Scheme{Op: api.SchemeCrash, Num: 3}, api.ErrRange}, {2, api.Scheme{Op: api.SchemeSend, Num: -1}, api.ErrRange}, {2, api.Scheme{Op: api.SchemeReceive, Num: 3}, api.ErrRange}, {2, api.Scheme{Op: api.SchemeOmit, Num: 3}, api.ErrRange}, {2, api.Scheme{Op: api.SchemePartition, Num: 7}, api.ErrRange}, {2, api.Scheme{Op: api.SchemePartition, Num: -1}, api.ErrRange},
		{2, api.Scheme{Op: api.SchemeGraphs}, api.ErrType}, {2, api.Scheme{Op: api.SchemeGraphs, Cond: never}, api.ErrEmpty}, {5, api.Scheme{Op: api.SchemeGraphs, Cond: truth}, api.ErrLimit}, {4, api.Scheme{Op: api.SchemeGraphs, Cond: truth}, api.OK}, {5, api.Scheme{Op: api.SchemeCrash, Num: 5}, api.OK},
		{5, api.Scheme{Op: api.SchemeSend, Num: 3}, api.ErrLimit}, {5, api.Scheme{Op: api.SchemeReceive, Num: 5}, api.ErrLimit}, {5, api.Scheme{Op: api.SchemeOmit, Num: 2}, api.ErrLimit}, {5, api.Scheme{Op: api.SchemeOmit, Num: 1}, api.OK}, {5, api.Scheme{Op: api.SchemePartition, Num: 6}, api.OK}, {2, api.Scheme{Op: api.SchemeSnapshot, Cond: api.Expr{Num: 1}}, api.ErrForm},
		{3, api.Scheme{Op: api.SchemeOmit, Num: 3}, api.OK}, {1, api.Scheme{Op: api.SchemeCrash, Num: 1}, api.OK}, {1, api.Scheme{Op: api.SchemeReceive, Num: 1}, api.OK},
	} {
		a, e := Of(x.n, x.s)
		want(t, fmt.Sprint("Of ", i), e, x.e)
		if e == api.OK {
			want(t, fmt.Sprint("Check ", i), adversary.Check(a), api.OK)
		}
	}
	for _, n := range []int{0, 6} {
		_, e := Graphs(n, api.Expr{Op: 99})
		want(t, "Graphs", e, api.ErrRange)
		_, e = Crash(n, 0)
		want(t, "Crash", e, api.ErrRange)
		_, e = Partition(n, 0)
		want(t, "Partition", e, api.ErrRange)
		_, e = Snapshot(n)
		want(t, "Snapshot", e, api.ErrRange)
	}
}

// permitted says by the definitions whether a graph is permitted when the faulty processes grow from a to b.
func permitted(model string, g api.Graph, a, b int) bool {
	has := func(set, p int) bool { return set>>p&1 == 1 }
	lost := func(p, q int) bool { return p != q && !has(g.Hears[p], q) }
	for p := range g.N {
		shown := !has(b&^a, p)
		for q := range g.N {
			if p == q {
				continue
			}
			switch model {
			case "crash":
				if has(b, p) && !lost(p, q) || !has(b, p) && (has(a, q) && !lost(p, q) || !has(b, q) && lost(p, q)) {
					return false
				}
				shown = true
			case "send":
				if lost(p, q) && !has(b, q) {
					return false
				}
				shown = shown || lost(q, p)
			case "receive":
				if lost(p, q) && !has(b, p) {
					return false
				}
				shown = shown || lost(p, q)
			case "omit":
				if lost(p, q) && !has(b, p) && !has(b, q) {
					return false
				}
				shown = shown || !has(a, q) && (lost(p, q) || lost(q, p))
			}
		}
		if !shown {
			return false
		}
	}
	return true
}

func TestFaults(t *testing.T) {
	models := map[string]func(n, f int) (api.Adversary, api.Errno){"crash": Crash, "send": Send, "receive": Receive, "omit": Omit}
	for model, build := range models {
		for n := 2; n <= 3; n++ {
			graphs, _ := graph.All(n)
			for f := 0; f <= n; f++ {
				a, _ := build(n, f)
				sets := []int{0}
				for s := 0; s < len(a.States); s++ {
					number := 0
					for _, g := range graphs {
						for b := range 1 << n {
							size := 0
							for p := range n {
								size += b >> p & 1
							}
							if sets[s]&^b != 0 || size > f || model != "crash" && b != sets[s] && !permitted(model, g, sets[s], b) || !permitted(model, g, sets[s], b) {
								continue
							}
							m := a.States[s][number]
							want(t, model, m.Round, api.Round{Graph: g, Faulty: b})
							if m.To == len(sets) {
								sets = append(sets, b)
							}
							want(t, "state", sets[m.To], b)
							number++
						}
					}
					want(t, fmt.Sprint(model, n, f, " moves of ", s), len(a.States[s]), number)
				}
				want(t, "states", len(sets), len(a.States))
			}
		}
	}
}

func TestConsequences(t *testing.T) {
	for _, build := range []func(n, f int) (api.Adversary, api.Errno){Crash, Send, Receive, Omit, Partition} {
		few, _ := build(3, 1)
		more, _ := build(3, 2)
		omit, _ := Omit(3, 1)
		crash, _ := Crash(3, 1)
		l, _ := adversary.Words(few, 2)
		for _, w := range l {
			ok, _ := adversary.Allows(more, w)
			want(t, "more failures", ok, true)
			p, _ := permutation.Parse(3, "(0 2 1)")
			renamed := make([]api.Round, len(w))
			for i, r := range w {
				renamed[i], _ = round.Permute(r, p)
			}
			ok, _ = adversary.Allows(few, renamed)
			want(t, "renamed", ok, true)
		}
		l, _ = adversary.Words(crash, 2)
		for _, w := range l {
			ok, _ := adversary.Allows(omit, w)
			want(t, "crashes are omissions", ok, true)
		}
	}
	snapshot, _ := Snapshot(3)
	for _, m := range snapshot.States[0] {
		g := m.Round.Graph
		for p := range 3 {
			for q := range 3 {
				a, b := g.Hears[p], g.Hears[q]
				if a&^b != 0 && b&^a != 0 || a>>q&1 == 1 && b&^a != 0 {
					t.Errorf("a snapshot: %v", g)
				}
			}
		}
	}
}
