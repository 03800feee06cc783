package quotient

import (
	"fmt"
	"slices"
	"testing"

	"roundtable/api"
	"roundtable/decide"
	"roundtable/execution"
	"roundtable/failure"
	"roundtable/library"
	"roundtable/partition"
	"roundtable/task"
)

func want(t *testing.T, what string, got, wanted any) {
	t.Helper()
	if fmt.Sprint(got) != fmt.Sprint(wanted) {
		t.Errorf("%s: got %v, want %v", what, got, wanted)
	}
}

func example(t *testing.T) api.System {
	t.Helper()
	c, _ := library.Consensus(2, 2)
	c, _ = task.Restrict(c, []int{0, 1})
	move := func(row int) api.Move {
		return api.Move{Round: api.Round{Graph: api.Graph{N: 2, Hears: [5]int{row, 3}}}}
	}
	s, e := execution.Build(api.Problem{Task: c, Adversary: api.Adversary{N: 2, States: [][]api.Move{{move(1), move(3)}}}, Rounds: 1})
	want(t, "Build", e, api.OK)
	return s
}

func ruleOf(n int, decisions map[int]int) api.Rule {
	r := api.Rule{Out: slices.Repeat([]int{-1}, n)}
	for view, value := range decisions {
		r.Out[view] = value
	}
	return r
}

func TestExamples(t *testing.T) {
	s := example(t)
	none, one := ruleOf(8, nil), ruleOf(8, map[int]int{6: 1})
	l, e := Classes(s, none)
	want(t, "Classes", []any{l, e}, []any{[]int{0, 1, 2, 3, 2, 1, 3, 2}, api.OK})
	l, _ = Classes(s, one)
	want(t, "Classes", l, []int{0, 1, 2, 3, 2, 4, 5, 2})
	n, e := Size(s, one)
	want(t, "Size", []any{n, e}, []any{6, api.OK})
	p, ok, e := Distinguish(s, one, 5, 1)
	want(t, "Distinguish", []any{p, ok, e, Apart(s, one, 1, 5, p), Apart(s, one, 5, 1, p)}, []any{[]int{1, 3}, true, api.OK, api.OK, api.OK})
	p, ok, _ = Distinguish(s, one, 2, 4)
	want(t, "Distinguish", []any{p, ok}, []any{[]int{}, false})
	p, ok, _ = Distinguish(s, one, 6, 3)
	want(t, "Distinguish", []any{p, ok}, []any{[]int{3}, true})
	want(t, "Apart", []api.Errno{Apart(s, one, 6, 3, []int{6}), Apart(s, one, 1, 5, []int{5, 6}), Apart(s, one, 1, 5, []int{5, 7}), Apart(s, none, 1, 5, []int{1, 3})}, []api.Errno{api.OK, api.OK, api.ErrProof, api.ErrProof})
}

func TestErrors(t *testing.T) {
	s := example(t)
	one := ruleOf(8, map[int]int{6: 1})
	for _, x := range []struct {
		r api.Rule
		e api.Errno
	}{{api.Rule{}, api.ErrShape}, {ruleOf(8, map[int]int{0: 1}), api.ErrState}, {ruleOf(8, map[int]int{7: 2}), api.ErrRange}} {
		_, e := Classes(s, x.r)
		want(t, "Classes", e, x.e)
		_, e = Size(s, x.r)
		want(t, "Size", e, x.e)
		want(t, "Verify", Verify(s, x.r, []int{4}), x.e)
		_, _, e = Distinguish(s, x.r, 99, 99)
		want(t, "Distinguish", e, x.e)
		want(t, "Apart", Apart(s, x.r, 99, 99, nil), x.e)
	}
	for i, x := range []struct {
		l []int
		e api.Errno
	}{{[]int{1}, api.ErrOrder}, {[]int{0}, api.ErrShape}, {[]int{0, 1, 2, 3, 2, 4, 5, 2}, api.OK}, {[]int{0, 1, 2, 3, 4, 5, 6, 7}, api.OK}, {[]int{0, 1, 2, 3, 2, 1, 3, 2}, api.ErrProof}, {[]int{0, 1, 2, 3, 2, 1, 4, 2}, api.ErrProof}, {[]int{0, 0, 1, 2, 3, 4, 5, 6}, api.ErrProof}, {[]int{0, 1, 0, 3, 2, 1, 3, 2}, api.ErrOrder}} {
		want(t, fmt.Sprint("Verify ", i), Verify(s, one, x.l), x.e)
	}
	for _, x := range []struct {
		v, w int
		e    api.Errno
	}{{-1, 0, api.ErrNone}, {0, 8, api.ErrNone}, {0, 1, api.ErrMismatch}, {0, 2, api.ErrMismatch}} {
		_, _, e := Distinguish(s, one, x.v, x.w)
		want(t, "Distinguish", e, x.e)
		want(t, "Apart", Apart(s, one, x.v, x.w, nil), x.e)
	}
	for i, x := range []struct {
		path []int
		e    api.Errno
	}{{nil, api.ErrEmpty}, {make([]int, 8), api.ErrMany}, {[]int{8}, api.ErrNone}, {[]int{0}, api.ErrProof}, {[]int{1}, api.ErrProof}, {[]int{1, 1}, api.ErrProof}, {[]int{1, 2}, api.ErrProof}, {[]int{1, 6}, api.ErrProof}, {[]int{1, 3, 3}, api.ErrProof}, {[]int{1, -1}, api.ErrNone}} {
		want(t, fmt.Sprint("Apart ", i), Apart(s, one, 1, 5, x.path), x.e)
	}
}

func TestConsequences(t *testing.T) {
	c, _ := library.Consensus(2, 2)
	crash, _ := failure.Crash(2, 1)
	send, _ := failure.Send(2, 1)
	commit, _ := library.Commit(2)
	for _, p := range []api.Problem{{Task: c, Adversary: crash, Rounds: 2}, {Task: commit, Adversary: send, Rounds: 2}} {
		s, _ := execution.Build(p)
		_, r, _, _ := decide.Decide(p)
		l, _ := Classes(s, r)
		n, _ := Size(s, r)
		count, _ := partition.Count(l)
		want(t, "Classes", []any{Verify(s, r, l), n}, []any{api.OK, count})
		if n == len(l) {
			t.Errorf("no views are equal in the future")
		}
		empty, _ := Classes(s, ruleOf(len(l), nil))
		finer, _ := partition.Finer(l, empty)
		want(t, "Finer", finer, true)
		identity := make([]int, len(l))
		for v := range identity {
			identity[v] = v
		}
		want(t, "Verify", Verify(s, r, identity), api.OK)
		for v := range l {
			for w := v % 3; w < len(l); w += 3 {
				x, y := s.Table.Views[v], s.Table.Views[w]
				if x.Proc != y.Proc || x.Round != y.Round {
					continue
				}
				path, ok, _ := Distinguish(s, r, v, w)
				want(t, "Distinguish", ok, l[v] != l[w])
				if ok {
					want(t, "Apart", Apart(s, r, v, w, path), api.OK)
					want(t, "first path", path, first(s, r, v, w, len(path)))
				}
			}
		}
		// Two classes put together do not fit.
		merged := slices.Clone(l)
		for v, class := range merged {
			if class == n-1 {
				merged[v] = l[slices.IndexFunc(s.Table.Views, func(x api.View) bool { return x.Round == s.Table.Views[v].Round && x.Proc == s.Table.Views[v].Proc })]
			}
		}
		merged, _ = partition.Of(merged)
		if !slices.Equal(merged, l) {
			want(t, "merged", Verify(s, r, merged), api.ErrProof)
		}
	}
}

// first returns the least path of a length that distinguishes two views.
func first(s api.System, r api.Rule, v, w, length int) []int {
	paths := [][]int{{min(v, w)}, {max(v, w)}}
	f := newFuture(s, r)
	for k := 1; k <= length; k++ {
		var longer [][]int
		for _, path := range paths {
			if f.distinguishes(v, w, path) {
				return path
			}
			for u, x := range s.Table.Views {
				if slices.Contains(x.Heard[:], path[len(path)-1]) {
					longer = append(longer, append(slices.Clone(path), u))
				}
			}
		}
		paths = longer
	}
	return nil
}
