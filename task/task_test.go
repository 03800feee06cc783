package task

import (
	"fmt"
	"testing"

	"roundtable/api"
)

func want(t *testing.T, what string, got, wanted any) {
	t.Helper()
	if fmt.Sprint(got) != fmt.Sprint(wanted) {
		t.Errorf("%s: got %v, want %v", what, got, wanted)
	}
}

func example() api.Task {
	return api.Task{N: 2, Ins: 2, Outs: 2, Cases: []api.Case{
		{In: []int{0, 0}, Out: [][]int{{0, 0}}},
		{In: []int{0, 1}, Out: [][]int{{0, 0}, {1, 1}}, Calm: [][]int{{1, 1}}},
		{In: []int{1, 1}, Out: [][]int{{1, 1}}},
	}}
}

func TestExamples(t *testing.T) {
	c := example()
	l, e := Allowed(c, 1, 0)
	want(t, "Allowed", []any{l, e}, []any{[][]int{{1, 1}}, api.OK})
	l, _ = Allowed(c, 1, 2)
	want(t, "Allowed", l, [][]int{{0, 0}, {1, 1}})
	l[0][0] = 9
	d, _ := Domain(c, 1, 0, 0)
	want(t, "Domain", d, []int{1})
	d, _ = Domain(c, 1, 2, 0)
	want(t, "Domain", d, []int{0, 1})
	for _, x := range []struct {
		index, faulty int
		outs          []int
		ok            bool
	}{{1, 2, []int{0, -1}, true}, {1, 0, []int{0, 0}, false}, {1, 0, []int{1, 1}, true}, {1, 0, []int{1, -1}, false}, {1, 3, []int{-1, 1}, true}, {1, 1, []int{1, 0}, true}, {0, 0, []int{0, 1}, false}, {2, 1, []int{-1, 0}, false}, {0, 3, []int{1, 1}, true}} {
		ok, e := Permitted(c, x.index, x.faulty, x.outs)
		want(t, fmt.Sprint("Permitted ", x), []any{ok, e}, []any{x.ok, api.OK})
	}
	agreement, _ := Agreement(c)
	cases, vectors, _ := Size(c)
	want(t, "Agreement, Size", []any{agreement, cases, vectors}, []any{true, 3, 4})
	r, e := Permute(c, []int{1, 0})
	want(t, "Permute", []any{r.Cases[1].In, r.Cases[1].Calm, Check(r), e}, []any{[]int{1, 0}, [][]int{{1, 1}}, api.OK, api.OK})
	r, _ = Restrict(c, []int{0, 2})
	_, e = Find(r, []int{0, 1})
	want(t, "Find", e, api.ErrNone)
	i, e := Find(r, []int{1, 1})
	want(t, "Find", []any{i, e}, []any{1, api.OK})
	r.Cases[0].Out[0][0] = 7
	want(t, "unchanged", Check(c), api.OK)
	c.Cases[0].Out = [][]int{{0, 0}, {0, 1}}
	agreement, _ = Agreement(c)
	want(t, "Agreement", agreement, false)
}

func TestCheck(t *testing.T) {
	for i, x := range []struct {
		change func(*api.Task)
		e      api.Errno
	}{
		{func(c *api.Task) { c.N = 0; c.Cases = nil }, api.ErrRange}, {func(c *api.Task) { c.N = 6 }, api.ErrRange}, {func(c *api.Task) { c.Ins = 9 }, api.ErrRange}, {func(c *api.Task) { c.Outs = 0 }, api.ErrRange},
		{func(c *api.Task) { c.Cases = nil }, api.ErrMany}, {func(c *api.Task) { c.Cases = make([]api.Case, 1025) }, api.ErrMany}, {func(c *api.Task) { c.Cases[1].In = []int{9}; c.Cases[2].In[0] = 7 }, api.ErrShape},
		{func(c *api.Task) { c.Cases[1].In[0] = 2 }, api.ErrRange}, {func(c *api.Task) { c.Cases[1].In[1] = 0 }, api.ErrOrder}, {func(c *api.Task) { c.Cases[1].Out = nil }, api.ErrMany}, {func(c *api.Task) { c.Cases[1].Out = make([][]int, 1025) }, api.ErrMany},
		{func(c *api.Task) { c.Cases[1].Out[1] = nil }, api.ErrShape}, {func(c *api.Task) { c.Cases[1].Out[1][1] = -1 }, api.ErrRange}, {func(c *api.Task) { c.Cases[1].Out[0][0] = 1; c.Cases[1].Out[0][1] = 1 }, api.ErrOrder},
		{func(c *api.Task) { c.Cases[1].Calm[0][0] = 0 }, api.ErrNone}, {func(c *api.Task) { c.Cases[1].Calm = [][]int{{1, 1}, {0, 0}} }, api.ErrOrder}, {func(c *api.Task) { c.Cases[1].Calm = [][]int{{1}} }, api.ErrNone}, {func(c *api.Task) { c.Cases[0].Calm = [][]int{{0, 0}} }, api.OK},
		{func(c *api.Task) { c.Cases[1].Calm = [][]int{{1, 1}, {1, 1}, {0, 1}} }, api.ErrOrder},
	} {
		c := example()
		x.change(&c)
		want(t, fmt.Sprint("Check ", i), Check(c), x.e)
		_, e := Find(c, []int{0, 0})
		want(t, "Find", e, x.e)
		_, e = Allowed(c, 0, 0)
		want(t, "Allowed", e, x.e)
		_, e = Permitted(c, 0, 0, []int{0, 0})
		want(t, "Permitted", e, x.e)
		_, e = Domain(c, 0, 0, 0)
		want(t, "Domain", e, x.e)
		_, e = Restrict(c, []int{0})
		want(t, "Restrict", e, x.e)
		_, e = Permute(c, []int{0, 1})
		want(t, "Permute", e, x.e)
		_, e = Agreement(c)
		want(t, "Agreement", e, x.e)
		_, _, e = Size(c)
		want(t, "Size", e, x.e)
	}
}

func TestErrors(t *testing.T) {
	c := example()
	for _, x := range []struct {
		index, faulty int
		outs          []int
		e             api.Errno
	}{{3, 9, nil, api.ErrNone}, {-1, 0, nil, api.ErrNone}, {0, 4, nil, api.ErrRange}, {0, -1, nil, api.ErrRange}, {0, 3, []int{0}, api.ErrShape}, {0, 3, []int{0, 2}, api.ErrRange}, {0, 0, []int{-2, 0}, api.ErrRange}} {
		_, e := Permitted(c, x.index, x.faulty, x.outs)
		want(t, "Permitted", e, x.e)
		if x.outs == nil {
			_, e = Allowed(c, x.index, x.faulty)
			want(t, "Allowed", e, x.e)
			_, e = Domain(c, x.index, x.faulty, 9)
			want(t, "Domain", e, x.e)
		}
	}
	for _, p := range []int{-1, 2} {
		_, e := Domain(c, 0, 0, p)
		want(t, "Domain", e, api.ErrRange)
	}
	for _, x := range []struct {
		l []int
		e api.Errno
	}{{nil, api.ErrMany}, {make([]int, 1025), api.ErrMany}, {[]int{0, 3, 1}, api.ErrNone}, {[]int{1, 0, 9}, api.ErrOrder}, {[]int{1, 1}, api.ErrOrder}, {[]int{-1}, api.ErrNone}} {
		_, e := Restrict(c, x.l)
		want(t, "Restrict", e, x.e)
	}
	_, e := Permute(c, []int{0, 0})
	want(t, "Permute", e, api.ErrTwice)
	_, e = Permute(c, []int{0, 2, 1})
	want(t, "Permute", e, api.ErrMismatch)
	for _, in := range [][]int{nil, {0}, {1, 0}, {0, 1, 0}} {
		_, e = Find(c, in)
		want(t, "Find", e, api.ErrNone)
	}
}

func TestConsequences(t *testing.T) {
	c := example()
	for index := range c.Cases {
		for faulty := range 4 {
			l, _ := Allowed(c, index, faulty)
			for _, v := range l {
				for p := range v {
					d, _ := Domain(c, index, faulty, p)
					want(t, "domain", len(d) > 0 && (d[0] == v[p] || d[len(d)-1] == v[p]), true)
					if faulty>>p&1 == 1 {
						v[p] = -1
					}
				}
				ok, _ := Permitted(c, index, faulty, v)
				want(t, "Permitted", ok, true)
				ok, _ = Permitted(c, index, faulty|1, v)
				want(t, "Permitted", ok, true)
			}
		}
	}
	back, _ := Permute(c, []int{1, 0})
	back, _ = Permute(back, []int{1, 0})
	want(t, "Permute", back, c)
}
