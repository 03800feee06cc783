package message

import (
	"fmt"
	"slices"
	"testing"

	"roundtable/api"
	"roundtable/decide"
	"roundtable/execution"
	"roundtable/failure"
	"roundtable/library"
	"roundtable/partition"
	"roundtable/quotient"
	"roundtable/task"
)

func want(t *testing.T, what string, got, wanted any) {
	t.Helper()
	if fmt.Sprint(got) != fmt.Sprint(wanted) {
		t.Errorf("%s: got %v, want %v", what, got, wanted)
	}
}

func example(t *testing.T) api.System {
	t.Helper()
	c, _ := library.Consensus(2, 2)
	c, _ = task.Restrict(c, []int{0, 1})
	move := func(row int) api.Move {
		return api.Move{Round: api.Round{Graph: api.Graph{N: 2, Hears: [5]int{row, 3}}}}
	}
	s, e := execution.Build(api.Problem{Task: c, Adversary: api.Adversary{N: 2, States: [][]api.Move{{move(1), move(3)}}}, Rounds: 1})
	want(t, "Build", e, api.OK)
	return s
}

func TestExamples(t *testing.T) {
	s := example(t)
	classes := []int{0, 1, 2, 3, 2, 4, 5, 2}
	l, e := Symbols(s, classes, Place{0, 1, 0})
	want(t, "Symbols", []any{l, e}, []any{[]int{-1, 0, -1, -1, 0, -1}, api.OK})
	l, _ = Symbols(s, classes, Place{0, 0, 1})
	want(t, "Symbols", l, []int{0, -1, -1, -1, -1, -1})
	n, e := Count(s, classes, Place{0, 1, 0})
	want(t, "Count", []any{n, e}, []any{1, api.OK})
	n, e = Bits(s, classes)
	want(t, "Bits", []any{n, e}, []any{0, api.OK})
	own := []int{0, 1, 2, 3, 4, 5, 6, 7}
	n, _ = Count(s, own, Place{0, 1, 0})
	bits, _ := Bits(s, own)
	want(t, "views of their own", []int{n, bits}, []int{2, 1})
}

func TestErrors(t *testing.T) {
	s := example(t)
	classes := []int{0, 1, 2, 3, 2, 4, 5, 2}
	bad := s
	bad.Executions = nil
	for i, x := range []struct {
		s api.System
		l []int
		p Place
		e api.Errno
	}{
		{bad, nil, Place{}, api.ErrForm}, {s, []int{1}, Place{9, 9, 9}, api.ErrOrder}, {s, []int{0}, Place{9, 9, 9}, api.ErrShape}, {s, []int{0, 0, 1, 2, 3, 4, 5, 6}, Place{9, 9, 9}, api.ErrProof}, {s, classes, Place{1, 9, 9}, api.ErrRange}, {s, classes, Place{-1, 0, 1}, api.ErrRange}, {s, classes, Place{0, 2, 0}, api.ErrNone}, {s, classes, Place{0, 0, -1}, api.ErrNone}, {s, classes, Place{0, 1, 1}, api.ErrUse},
	} {
		_, e := Symbols(x.s, x.l, x.p)
		want(t, fmt.Sprint("Symbols ", i), e, x.e)
		_, e = Count(x.s, x.l, x.p)
		want(t, fmt.Sprint("Count ", i), e, x.e)
		want(t, fmt.Sprint("Verify ", i), Verify(x.s, x.l, x.p, nil), x.e)
		if i < 4 {
			_, e = Bits(x.s, x.l)
			want(t, fmt.Sprint("Bits ", i), e, x.e)
		}
	}
	own := []int{0, 1, 2, 3, 4, 5, 6, 7}
	for i, x := range []struct {
		l, symbols []int
		e          api.Errno
	}{
		{classes, nil, api.ErrForm}, {classes, []int{-1, 0, -1, -1, 0, -1}, api.OK}, {classes, []int{-1, 7, -1, -1, 3, -1}, api.OK}, {classes, []int{-1, -1, -1, -1, 0, -1}, api.ErrRange}, {classes, []int{0, 0, -1, -1, 0, -1}, api.ErrRange}, {classes, []int{-1, 1<<20 + 1, -1, -1, 0, -1}, api.ErrRange},
		{own, []int{-1, 0, -1, -1, -1, 0, -1, -1}, api.ErrProof}, {own, []int{-1, 0, -1, -1, -1, 1, -1, -1}, api.OK},
	} {
		want(t, fmt.Sprint("Verify ", i), Verify(s, x.l, Place{0, 1, 0}, x.symbols), x.e)
	}
}

func TestConsequences(t *testing.T) {
	c, _ := library.Consensus(2, 2)
	crash, _ := failure.Crash(2, 1)
	commit, _ := library.Commit(3)
	crash3, _ := failure.Crash(3, 1)
	for _, p := range []api.Problem{{Task: c, Adversary: crash, Rounds: 2}, {Task: commit, Adversary: crash3, Rounds: 2}} {
		s, _ := execution.Build(p)
		_, r, _, _ := decide.Decide(p)
		if r.Out == nil {
			t.Fatal("no rule")
		}
		classes, _ := quotient.Classes(s, r)
		for x := range places(s) {
			l, _ := Symbols(s, classes, x)
			n, _ := Count(s, classes, x)
			want(t, "Verify", []any{Verify(s, classes, x, l), slices.Max(l) + 1}, []any{api.OK, n})
			for a := 0; a+1 < n; a++ {
				merged := slices.Clone(l)
				for class, symbol := range merged {
					if symbol == a+1 {
						merged[class] = a
					}
				}
				want(t, "merged", Verify(s, classes, x, merged), api.ErrProof)
			}
			// The class of a view is determined by its own one before, and by the symbols that it heard.
			classOf := map[string]int{}
			for u, view := range s.Table.Views {
				if view.Proc != x.To || view.Round != x.Round+1 {
					continue
				}
				key := fmt.Sprint(view.Round)
				for q, h := range view.Heard {
					switch {
					case h < 0:
						key += " -"
					case q == x.To:
						key += fmt.Sprint(" ", classes[h])
					default:
						other, _ := Symbols(s, classes, Place{x.Round, q, x.To})
						key += fmt.Sprint(" ", other[classes[h]])
					}
				}
				if class, ok := classOf[key]; ok && class != classes[u] {
					t.Errorf("the class of the view %d", u)
				}
				classOf[key] = classes[u]
				if len(s.Executions) > 200 && len(classOf) > 40 {
					break
				}
			}
		}
		n, _ := partition.Count(classes)
		if n == 0 {
			t.Error("no classes")
		}
	}
}
