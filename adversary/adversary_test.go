package adversary

import (
	"fmt"
	"slices"
	"testing"

	"roundtable/api"
	"roundtable/round"
)

func want(t *testing.T, what string, got, wanted any) {
	t.Helper()
	if fmt.Sprint(got) != fmt.Sprint(wanted) {
		t.Errorf("%s: got %v, want %v", what, got, wanted)
	}
}

func letter(hears ...int) api.Round {
	r := api.Round{Graph: api.Graph{N: len(hears)}}
	copy(r.Graph.Hears[:], hears)
	return r
}

var silent, complete = letter(1, 2), letter(3, 3)

func example() api.Adversary {
	return api.Adversary{N: 2, States: [][]api.Move{{{Round: silent, To: 1}, {Round: complete}}, {{Round: complete, To: 1}}}}
}

func TestExamples(t *testing.T) {
	a := example()
	for rounds, number := range []int{1, 2, 3, 4, 5, 6, 7} {
		n, e := Count(a, rounds)
		l, _ := Words(a, rounds)
		want(t, "Count", []any{n, len(l), e}, []any{number, number, api.OK})
	}
	l, _ := Words(a, 2)
	want(t, "Words", l, [][]api.Round{{silent, complete}, {complete, silent}, {complete, complete}})
	ok, e := Allows(a, []api.Round{silent, silent})
	want(t, "Allows", []any{ok, e}, []any{false, api.OK})
	ok, _ = Allows(a, nil)
	want(t, "Allows", ok, true)
	s, e := State(a, []api.Round{complete, silent, complete})
	want(t, "State", []any{s, e}, []any{1, api.OK})
	s, e = Step(a, 1, complete)
	want(t, "Step", []any{s, e}, []any{1, api.OK})
	o, _ := Oblivious(a)
	want(t, "Oblivious", o, false)
	r, _ := Reachable(a)
	want(t, "Reachable", r, []int{0, 1})
	more := example()
	more.States = slices.Insert(more.States, 1, []api.Move{{Round: silent, To: 2}})
	more.States[0][0].To, more.States[2][0].To = 2, 2
	r, _ = Reachable(more)
	trimmed, e := Trim(more)
	want(t, "Trim", []any{r, trimmed, e}, []any{[]int{0, 2}, a, api.OK})
	a.States[1] = []api.Move{{Round: silent}, {Round: complete, To: 1}}
	o, _ = Oblivious(a)
	n, _ := Count(a, 6)
	want(t, "Oblivious", []any{o, n}, []any{true, 64})
}

func TestCheck(t *testing.T) {
	broken := letter(2, 2)
	three := letter(1, 2, 4)
	faulty := silent
	faulty.Faulty = 1
	many := make([]api.Move, api.MaxMoves)
	for i, x := range []struct {
		change func(*api.Adversary)
		e      api.Errno
	}{
		{func(a *api.Adversary) { a.N = 0; a.States = nil }, api.ErrRange}, {func(a *api.Adversary) { a.N = 6 }, api.ErrRange}, {func(a *api.Adversary) { a.States = nil }, api.ErrMany}, {func(a *api.Adversary) { a.States = make([][]api.Move, 257) }, api.ErrMany},
		{func(a *api.Adversary) { a.States[0] = nil; a.States[1] = append(many, many[0]) }, api.ErrMany}, {func(a *api.Adversary) { a.States[0] = nil; a.States[1] = many }, api.ErrDead}, {func(a *api.Adversary) { a.States[1] = nil }, api.ErrDead}, {func(a *api.Adversary) { a.States[1] = nil; a.States[0][1].To = 9 }, api.ErrRange},
		{func(a *api.Adversary) { a.States[1][0].Round = broken; a.States[1][0].To = 9 }, api.ErrForm}, {func(a *api.Adversary) { a.States[1][0].Round = three; a.States[1][0].To = 9 }, api.ErrMismatch}, {func(a *api.Adversary) { a.States[0][1].Round = silent; a.States[0][1].To = 9 }, api.ErrOrder},
		{func(a *api.Adversary) { a.States[1][0].To = 2 }, api.ErrRange}, {func(a *api.Adversary) { a.States[1][0].To = -1 }, api.ErrRange}, {func(a *api.Adversary) { a.States[0][0].Round = faulty }, api.ErrState}, {func(a *api.Adversary) { a.States[1][0].Round.Faulty = 4 }, api.ErrRange}, {func(a *api.Adversary) { a.States[1][0].Round.Faulty = 3 }, api.OK},
	} {
		a := example()
		x.change(&a)
		want(t, fmt.Sprint("Check ", i), Check(a), x.e)
		_, e := Allows(a, nil)
		want(t, "Allows", e, x.e)
		_, e = State(a, nil)
		want(t, "State", e, x.e)
		_, e = Count(a, 0)
		want(t, "Count", e, x.e)
		_, e = Words(a, 0)
		want(t, "Words", e, x.e)
		_, e = Reachable(a)
		want(t, "Reachable", e, x.e)
		_, e = Trim(a)
		want(t, "Trim", e, x.e)
		_, e = Oblivious(a)
		want(t, "Oblivious", e, x.e)
		if x.e != api.OK {
			_, e = Step(a, 0, silent)
			want(t, "Step", e, x.e)
		}
	}
	a := example()
	for _, s := range []int{-1, 2} {
		_, e := Step(a, s, silent)
		want(t, "Step", e, api.ErrNone)
	}
	_, e := Step(a, 1, silent)
	want(t, "Step", e, api.ErrSchedule)
	_, e = State(a, []api.Round{{}})
	want(t, "State", e, api.ErrSchedule)
	for _, rounds := range []int{-1, 7} {
		_, e = Count(a, rounds)
		want(t, "Count", e, api.ErrRange)
		_, e = Words(a, rounds)
		want(t, "Words", e, api.ErrRange)
	}
}

func TestLimits(t *testing.T) {
	var a api.Adversary
	a.N = 3
	a.States = [][]api.Move{nil}
	for x := range 16 {
		a.States[0] = append(a.States[0], api.Move{Round: letter(1|x>>2<<1, 2|x&1|x<<1&4, 4)})
	}
	slices.SortFunc(a.States[0], func(x, y api.Move) int { return round.Compare(x.Round, y.Round) })
	for rounds, wanted := range []int{1, 16, 256, 4096, 65536, 1 << 20, 0} {
		n, e := Count(a, rounds)
		l, f := Words(a, rounds)
		want(t, "Count", []any{n, e == api.ErrLimit}, []any{wanted, rounds == 6})
		want(t, "Words", []any{len(l), f == api.ErrLimit}, []any{wanted * ((7 - rounds) / 4), rounds > 3})
	}
	want(t, "Check", Check(a), api.OK)
}

func TestWords(t *testing.T) {
	a := example()
	longer, _ := Words(a, 4)
	shorter, _ := Words(a, 3)
	compare := func(x, y []api.Round) int { return slices.CompareFunc(x, y, round.Compare) }
	want(t, "order", slices.IsSortedFunc(longer, compare), true)
	var beginnings [][]api.Round
	for _, w := range longer {
		ok, _ := Allows(a, w)
		want(t, "Allows", ok, true)
		beginnings = append(beginnings, w[:3])
	}
	want(t, "beginnings", slices.CompactFunc(beginnings, func(x, y []api.Round) bool { return compare(x, y) == 0 }), shorter)
	longer[0][0].Faulty = 9
	want(t, "unchanged", Check(a), api.OK)
}
