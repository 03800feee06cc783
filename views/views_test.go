package views

import (
	"fmt"
	"testing"

	"roundtable/api"
)

func want(t *testing.T, what string, got, wanted any) {
	t.Helper()
	if fmt.Sprint(got) != fmt.Sprint(wanted) {
		t.Errorf("%s: got %v, want %v", what, got, wanted)
	}
}

func view(proc, round, input int, heard ...int) api.View {
	v := api.View{Proc: proc, Round: round, Input: input, Heard: [5]int{-1, -1, -1, -1, -1}}
	copy(v.Heard[:], heard)
	return v
}

func example() api.Table {
	return api.Table{N: 2, Views: []api.View{view(0, 0, 1), view(1, 0, 0), view(0, 1, 0, 0, 1), view(1, 1, 0, -1, 1)}}
}

func TestExamples(t *testing.T) {
	x := example()
	for i, s := range []string{"0:1", "1:0", "0(0:1,1:0)", "1(1:0)"} {
		text, e := Text(x, i)
		want(t, "Text", []any{text, e}, []any{s, api.OK})
	}
	l, e := Past(x, 2)
	want(t, "Past", []any{l, e}, []any{[]int{0, 1, 2}, api.OK})
	l, _ = Inputs(x, 2)
	want(t, "Inputs", l, []int{1, 0})
	l, _ = Inputs(x, 3)
	want(t, "Inputs", l, []int{-1, 0})
	for _, c := range []struct {
		i, later int
		ok       bool
	}{{0, 2, true}, {1, 2, false}, {2, 2, true}, {2, 0, false}, {1, 3, true}} {
		ok, e := Continues(x, c.i, c.later)
		want(t, "Continues", []any{ok, e}, []any{c.ok, api.OK})
	}
	y, i, e := Add(x, view(0, 2, 0, 2, 3))
	text, _ := Text(y, 4)
	want(t, "Add", []any{len(y.Views), i, e, text}, []any{5, 4, api.OK, "0(0(0:1,1:0),1(1:0))"})
	y, i, _ = Add(y, view(0, 1, 0, 0, 1))
	want(t, "Add", []int{len(y.Views), i}, []int{5, 2})
	y.Views[0].Input = 7
	want(t, "unchanged", x, example())
	i, ok, e := Find(x, view(1, 1, 0, -1, 1))
	want(t, "Find", []any{i, ok, e}, []any{3, true, api.OK})
	i, ok, e = Find(x, view(1, 0, 1))
	want(t, "Find", []any{i, ok, e}, []any{0, false, api.OK})
	i, e = Own(x, 3)
	want(t, "Own", []any{i, e}, []any{1, api.OK})
	_, e = Own(x, 1)
	want(t, "Own", e, api.ErrEmpty)
}

func TestErrors(t *testing.T) {
	x := example()
	x.Views = append(x.Views, view(0, 0, 0))
	beyond := view(0, 0, 1)
	beyond.Heard[4] = 0
	later := view(0, 1, 0, 0)
	later.Heard[2] = 0
	for i, c := range []struct {
		v api.View
		e api.Errno
	}{
		{view(2, 9, 9), api.ErrRange}, {view(-1, 0, 0), api.ErrRange}, {view(0, 7, 0), api.ErrRange}, {view(0, -1, 0), api.ErrRange}, {view(0, 0, 8), api.ErrRange}, {view(0, 0, -1), api.ErrRange}, {beyond, api.ErrForm}, {view(0, 0, 1, 0), api.ErrForm}, {view(0, 1, 1, 0), api.ErrForm}, {later, api.ErrForm},
		{view(0, 1, 0, 0, 5), api.ErrNone}, {view(0, 1, 0, -2, 0), api.ErrNone}, {view(0, 1, 0, 1, 9), api.ErrMismatch}, {view(0, 2, 0, 0), api.ErrMismatch}, {view(0, 1, 0, -1, 0), api.ErrMismatch}, {view(1, 1, 0, 0), api.ErrGap}, {view(0, 6, 0), api.ErrGap}, {view(0, 0, 1), api.OK}, {view(0, 1, 0, 4, 1), api.OK}, {view(1, 1, 0, 4, 1), api.OK},
	} {
		_, _, e := Add(x, c.v)
		want(t, fmt.Sprint("Add ", i), e, c.e)
	}
	y, i, _ := Add(x, view(1, 1, 0, 4, 1))
	_, _, e := Add(y, view(0, 2, 0, 2, i))
	want(t, "Add", e, api.ErrMismatch)
	bad := example()
	bad.Views[3] = bad.Views[2]
	for _, c := range []struct {
		x api.Table
		e api.Errno
	}{{api.Table{}, api.ErrArg}, {api.Table{N: 6, Views: make([]api.View, 9000)}, api.ErrArg}, {api.Table{N: 2, Views: make([]api.View, 8193)}, api.ErrMany}, {bad, api.ErrTwice}, {api.Table{N: 2, Views: make([]api.View, 1)}, api.ErrForm}} {
		want(t, "Check", Check(c.x), c.e)
		_, _, e := Add(c.x, view(9, 0, 0))
		want(t, "Add", e, c.e)
		_, _, e = Find(c.x, view(0, 0, 0))
		want(t, "Find", e, c.e)
		_, e = Own(c.x, 99)
		want(t, "Own", e, c.e)
		_, e = Continues(c.x, 99, 99)
		want(t, "Continues", e, c.e)
		_, e = Past(c.x, 99)
		want(t, "Past", e, c.e)
		_, e = Inputs(c.x, 99)
		want(t, "Inputs", e, c.e)
		_, e = Text(c.x, 99)
		want(t, "Text", e, c.e)
	}
	for _, i := range []int{-1, 5} {
		_, e = Own(x, i)
		want(t, "Own", e, api.ErrNone)
		_, e = Continues(x, i, 0)
		want(t, "Continues", e, api.ErrNone)
		_, e = Continues(x, 0, i)
		want(t, "Continues", e, api.ErrNone)
		_, e = Past(x, i)
		want(t, "Past", e, api.ErrNone)
		_, e = Inputs(x, i)
		want(t, "Inputs", e, api.ErrNone)
		_, e = Text(x, i)
		want(t, "Text", e, api.ErrNone)
	}
}

func TestLimits(t *testing.T) {
	x := api.Table{N: 5}
	for p := range 5 {
		x.Views = append(x.Views, view(p, 0, p))
	}
	for k := 1; k <= 6; k++ {
		for p := range 5 {
			n := len(x.Views) - p
			x.Views = append(x.Views, view(p, k, 0, n-5, n-4, n-3, n-2, n-1))
		}
	}
	want(t, "Check", Check(x), api.OK)
	_, e := Text(x, 34)
	want(t, "Text", e, api.ErrLong)
	s, e := Text(x, 29)
	want(t, "Text", []any{len(s), e}, []any{14842, api.OK})
	l, _ := Past(x, 34)
	want(t, "Past", len(l), 31)
	full := api.Table{N: 5}
	for p := range 5 {
		for input := range 8 {
			full.Views = append(full.Views, view(p, 0, input))
		}
	}
	for code := 0; len(full.Views) < api.MaxViews; code++ {
		v := view(0, 1, 0, code%8)
		for q, rest := 1, code/8; q < 5; q, rest = q+1, rest/9 {
			if rest%9 > 0 {
				v.Heard[q] = q*8 + rest%9 - 1
			}
		}
		full.Views = append(full.Views, v)
	}
	want(t, "Check", Check(full), api.OK)
	_, _, e = Add(full, view(4, 1, 0, -1, -1, -1, -1, 32))
	want(t, "Add", e, api.ErrLimit)
	_, i, e := Add(full, view(4, 0, 7))
	want(t, "Add", []any{i, e}, []any{39, api.OK})
}
