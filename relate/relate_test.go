package relate

import (
	"fmt"
	"testing"

	"roundtable/api"
	"roundtable/library"
	"roundtable/permutation"
	"roundtable/task"
)

func want(t *testing.T, what string, got, wanted any) {
	t.Helper()
	if fmt.Sprint(got) != fmt.Sprint(wanted) {
		t.Errorf("%s: got %v, want %v", what, got, wanted)
	}
}

func get(t *testing.T, name string, n, a, b int) api.Task {
	t.Helper()
	c, e := library.Get(name, n, a, b)
	want(t, name, e, api.OK)
	return c
}

// free returns the task with the cases of another one, where everything is allowed.
func free(a api.Task) api.Task {
	b := api.Task{N: a.N, Ins: a.Ins, Outs: 2}
	for _, c := range a.Cases {
		b.Cases = append(b.Cases, api.Case{In: c.In, Out: [][]int{{0, 0}, {0, 1}, {1, 0}, {1, 1}}})
	}
	return b
}

func TestExamples(t *testing.T) {
	a := get(t, "consensus", 2, 2, 0)
	b := free(a)
	in, faulty, v, ok, e := Stronger(a, b)
	want(t, "Stronger", []any{in, faulty, v, ok, e}, []any{[]int{}, 0, []int{}, true, api.OK})
	in, faulty, v, ok, e = Stronger(b, a)
	want(t, "Stronger", []any{in, faulty, v, ok, e}, []any{[]int{0, 0}, 0, []int{0, 1}, false, api.OK})
	m, e := Meet(a, b)
	want(t, "Meet", []any{m, e}, []any{a, api.OK})
	m, e = Join(a, b)
	want(t, "Join", []any{m, e}, []any{b, api.OK})
	m, e = Product(a, a)
	want(t, "Product", []any{m.Outs, m.Cases[0].Out, m.Cases[1].Out, e}, []any{4, [][]int{{0, 0}}, [][]int{{0, 0}, {1, 1}, {2, 2}, {3, 3}}, api.OK})
	m, e = Relabel(a, 1, []int{0, 0})
	want(t, "Relabel", []any{m.Outs, m.Cases[0].Out, m.Cases[1].Out, e}, []any{1, [][]int{{0, 0}}, [][]int{{0, 0}}, api.OK})
	l, e := Symmetries(a)
	want(t, "Symmetries", []any{l, e}, []any{[][]int{{0, 1}, {1, 0}}, api.OK})
	l, _ = Symmetries(get(t, "crusader", 3, 2, 0))
	want(t, "Symmetries", l, [][]int{{0, 1, 2}, {0, 2, 1}})
}

func TestFaulty(t *testing.T) {
	one := func(out, calm [][]int) api.Task {
		return api.Task{N: 2, Ins: 1, Outs: 3, Cases: []api.Case{{In: []int{0, 0}, Out: out, Calm: calm}}}
	}
	all := [][]int{{0, 0}, {1, 1}, {2, 2}}
	_, faulty, v, ok, _ := Stronger(one(all, [][]int{{0, 0}}), one([][]int{{0, 0}, {1, 2}}, nil))
	want(t, "Stronger", []any{faulty, v, ok}, []any{1, []int{1, 1}, false})
	_, faulty, v, ok, _ = Stronger(one([][]int{{0, 0}, {1, 1}}, [][]int{{0, 0}}), one([][]int{{0, 0}, {0, 1}, {1, 0}}, nil))
	want(t, "Stronger", []any{faulty, v, ok}, []any{0, []int{}, true})
	small := api.Task{N: 2, Ins: 1, Outs: 1, Cases: []api.Case{{In: []int{0, 0}, Out: [][]int{{0, 0}}}}}
	_, faulty, v, ok, _ = Stronger(one([][]int{{0, 0}, {0, 2}}, [][]int{{0, 0}}), small)
	want(t, "Stronger", []any{faulty, v, ok}, []any{1, []int{0, 2}, false})
	m, e := Meet(one(all, [][]int{{0, 0}, {1, 1}}), one(all, [][]int{{1, 1}, {2, 2}}))
	want(t, "Meet", []any{m.Cases[0].Calm, m.Cases[0].Out, e}, []any{[][]int{{1, 1}}, all, api.OK})
	_, e = Meet(one(all, [][]int{{0, 0}}), one(all, [][]int{{2, 2}}))
	want(t, "Meet", e, api.ErrEmpty)
	_, e = Meet(one(all[:1], nil), one(all[1:], nil))
	want(t, "Meet", e, api.ErrEmpty)
	m, e = Meet(one(all, all[:1]), one(all[:1], nil))
	want(t, "Meet", []any{len(m.Cases[0].Calm), e}, []any{0, api.OK})
	m, _ = Join(one(all, all[:1]), one(all, all[1:2]))
	want(t, "Join", m.Cases[0].Calm, all[:2])
	m, _ = Join(one(all[:1], nil), one(all[1:], all[2:]))
	want(t, "Join", m.Cases[0].Calm, [][]int{{0, 0}, {2, 2}})
	m, _ = Relabel(one(all, all[:1]), 2, []int{1, 1, 0})
	want(t, "Relabel", []any{m.Cases[0].Out, m.Cases[0].Calm}, []any{[][]int{{0, 0}, {1, 1}}, [][]int{{1, 1}}})
	p, _ := Product(one(all[:2], all[:1]), small)
	want(t, "Product", []any{p.Cases[0].Out, p.Cases[0].Calm}, []any{all[:2], all[:1]})
}

func TestErrors(t *testing.T) {
	a := get(t, "consensus", 2, 2, 0)
	bad := api.Task{N: 9}
	for _, x := range []struct {
		a, b api.Task
		e    api.Errno
	}{{bad, api.Task{N: 2, Ins: 1, Outs: 1}, api.ErrRange}, {a, bad, api.ErrRange}, {a, get(t, "consensus", 3, 2, 0), api.ErrMismatch}} {
		_, _, _, _, e := Stronger(x.a, x.b)
		want(t, "Stronger", e, x.e)
		_, e = Meet(x.a, x.b)
		want(t, "Meet", e, x.e)
		_, e = Join(x.a, x.b)
		want(t, "Join", e, x.e)
		_, e = Product(x.a, x.b)
		want(t, "Product", e, x.e)
	}
	_, e := Relabel(bad, 1, nil)
	want(t, "Relabel", e, api.ErrRange)
	_, e = Symmetries(bad)
	want(t, "Symmetries", e, api.ErrRange)
	for _, x := range []struct {
		outs int
		to   []int
		e    api.Errno
	}{{0, nil, api.ErrRange}, {9, nil, api.ErrRange}, {2, []int{0}, api.ErrShape}, {2, []int{0, 2}, api.ErrRange}, {2, []int{-1, 0}, api.ErrRange}} {
		_, e = Relabel(a, x.outs, x.to)
		want(t, "Relabel", e, x.e)
	}
	first, _ := task.Restrict(a, []int{0, 1})
	last, _ := task.Restrict(a, []int{2, 3})
	_, e = Meet(first, last)
	want(t, "Meet", e, api.ErrEmpty)
	_, e = Product(first, last)
	want(t, "Product", e, api.ErrEmpty)
	j, e := Join(first, last)
	want(t, "Join", []any{j, e}, []any{a, api.OK})
	in, _, _, ok, _ := Stronger(first, a)
	want(t, "Stronger", []any{in, ok}, []any{[]int{1, 0}, false})
	five := get(t, "consensus", 2, 5, 0)
	_, e = Product(five, a)
	want(t, "Product", e, api.ErrMany)
	s := get(t, "set", 5, 4, 5)
	two := api.Task{N: 5, Ins: 4, Outs: 2, Cases: []api.Case{{In: []int{0, 0, 1, 2, 3}, Out: [][]int{{0, 0, 0, 0, 0}, {1, 1, 1, 1, 1}}}}}
	_, e = Product(s, two)
	want(t, "Product", e, api.ErrMany)
	other := api.Task{N: 5, Ins: 5, Outs: 5, Cases: []api.Case{{In: []int{0, 0, 0, 0, 4}, Out: [][]int{{4, 4, 4, 4, 4}}}}}
	_, e = Join(s, other)
	want(t, "Join", e, api.ErrMany)
	other.Cases[0].In = []int{0, 0, 1, 2, 3}
	_, e = Join(s, other)
	want(t, "Join", e, api.ErrMany)
}

func TestConsequences(t *testing.T) {
	tasks := []api.Task{get(t, "consensus", 2, 2, 0), get(t, "set", 2, 2, 2), get(t, "commit", 2, 0, 0), get(t, "approximate", 2, 1, 0), free(get(t, "consensus", 2, 2, 0))}
	stronger := func(a, b api.Task) bool {
		_, _, _, ok, e := Stronger(a, b)
		want(t, "Stronger", e, api.OK)
		return ok
	}
	for _, a := range tasks {
		want(t, "reflexive", stronger(a, a), true)
		for _, b := range tasks {
			if m, e := Meet(a, b); e == api.OK {
				want(t, "Meet", []any{task.Check(m), stronger(m, a), stronger(m, b)}, []any{api.OK, true, true})
			}
			j, _ := Join(a, b)
			want(t, "Join", []any{task.Check(j), stronger(a, j), stronger(b, j)}, []any{api.OK, true, true})
			p, _ := Product(a, b)
			second, _ := Relabel(p, 2, []int{0, 1, 0, 1})
			first, _ := Relabel(p, 2, []int{0, 0, 1, 1})
			want(t, "Product", []any{task.Check(p), stronger(first, a), stronger(a, first), stronger(second, b), stronger(b, second)}, []any{api.OK, true, true, true, true})
			for _, c := range tasks {
				if stronger(a, b) && stronger(b, c) {
					want(t, "transitive", stronger(a, c), true)
				}
			}
		}
		l, _ := Symmetries(a)
		for _, p := range l {
			for _, q := range l {
				r, _ := permutation.Compose(p, q)
				renamed, _ := task.Permute(a, r)
				want(t, "symmetry", renamed, a)
			}
		}
	}
}
