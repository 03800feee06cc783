package condition

import (
	"fmt"
	"testing"

	"roundtable/api"
	"roundtable/expr"
	"roundtable/graph"
	"roundtable/parser"
	"roundtable/resolve"
	"roundtable/task"
)

func want(t *testing.T, what string, got, wanted any) {
	t.Helper()
	if fmt.Sprint(got) != fmt.Sprint(wanted) {
		t.Errorf("%s: got %v, want %v", what, got, wanted)
	}
}

func cond(t *testing.T, src string) api.Expr {
	t.Helper()
	tree, _, e := parser.Cond(src)
	want(t, src, e, api.OK)
	c, _, e := resolve.Cond(tree, 7)
	want(t, src, e, api.OK)
	return c
}

const agree = "all p: all q: out(p) = out(q) and some p1: some q1: out(p1) = in(q1)"

func TestInputs(t *testing.T) {
	l, e := Inputs(2, 2, cond(t, "in(0) < in(1)"))
	want(t, "Inputs", []any{l, e}, []any{[][]int{{0, 1}}, api.OK})
	l, _ = Inputs(2, 3, api.Expr{})
	want(t, "Inputs", l, [][]int{{0, 0}, {0, 1}, {0, 2}, {1, 0}, {1, 1}, {1, 2}, {2, 0}, {2, 1}, {2, 2}})
	l, e = Inputs(5, 4, api.Expr{})
	want(t, "Inputs", []any{len(l), e}, []any{1024, api.OK})
	for i, x := range []struct {
		n, values int
		cond      api.Expr
		e         api.Errno
	}{
		{0, 0, api.Expr{Op: 99}, api.ErrRange}, {6, 2, api.Expr{}, api.ErrRange}, {2, 0, api.Expr{}, api.ErrRange}, {2, 9, api.Expr{}, api.ErrRange}, {2, 2, api.Expr{Op: 99}, api.ErrArg}, {2, 2, api.Expr{Num: 1}, api.ErrType},
		{2, 2, cond(t, "out(0) = 0"), api.ErrUse}, {2, 2, cond(t, "hears(0, 1)"), api.ErrUse}, {5, 5, api.Expr{}, api.ErrMany}, {5, 8, cond(t, "in(0) < 0"), api.OK}, {5, 8, cond(t, "in(0) < 1"), api.ErrMany},
		{2, 2, api.Expr{Op: api.ExprVar}, api.ErrUnbound}, {1, 1, api.Expr{Op: api.ExprNot, Args: []api.Expr{{Op: api.ExprConst}}}, api.ErrType},
	} {
		l, e := Inputs(x.n, x.values, x.cond)
		want(t, fmt.Sprint("Inputs ", i), []any{len(l), e}, []any{0, x.e})
	}
}

func TestOutputs(t *testing.T) {
	l, e := Outputs(2, 3, []int{1, 7}, cond(t, "out(0) + in(1) = 7 and out(1) <= in(0)"))
	want(t, "Outputs", []any{l, e}, []any{[][]int{{0, 0}, {0, 1}}, api.OK})
	for i, x := range []struct {
		n, values int
		in        []int
		cond      api.Expr
		e         api.Errno
	}{
		{6, 9, nil, api.Expr{}, api.ErrRange}, {2, 9, nil, api.Expr{}, api.ErrRange}, {2, 2, []int{9}, api.Expr{Op: 99}, api.ErrShape}, {2, 2, []int{0, 8}, api.Expr{Op: 99}, api.ErrRange}, {2, 2, []int{-1, 0}, api.Expr{}, api.ErrRange},
		{2, 2, []int{0, 0}, api.Expr{Op: 99}, api.ErrArg}, {2, 2, []int{0, 0}, api.Expr{Num: 1}, api.ErrType}, {2, 2, []int{0, 0}, cond(t, "hears(0, 0)"), api.ErrUse}, {5, 5, make([]int, 5), api.Expr{}, api.ErrMany},
	} {
		l, e := Outputs(x.n, x.values, x.in, x.cond)
		want(t, fmt.Sprint("Outputs ", i), []any{len(l), e}, []any{0, x.e})
	}
	l, _ = Outputs(2, 2, []int{0, 0}, api.Expr{})
	want(t, "Outputs", len(l), 4)
}

func TestTask(t *testing.T) {
	d := api.TaskDecl{Name: "?", Ins: 2, Outs: 2, Allow: cond(t, agree)}
	c, e := Task(2, d)
	_, vectors, _ := task.Size(c)
	want(t, "Task", []any{len(c.Cases), len(c.Cases[1].Out), vectors, e}, []any{4, 2, 6, api.OK})
	d.Calm = cond(t, "out(0) = in(0)")
	d.Where = cond(t, "in(0) <= in(1)")
	c, e = Task(2, d)
	want(t, "Task", []any{c, task.Check(c), e}, []any{"{2 2 2 [{[0 0] [[0 0]] [[0 0]]} {[0 1] [[0 0] [1 1]] [[0 0]]} {[1 1] [[1 1]] [[1 1]]}]}", api.OK, api.OK})
	for i, x := range []struct {
		n      int
		change func(*api.TaskDecl)
		e      api.Errno
	}{
		{0, func(d *api.TaskDecl) { d.Ins = 0 }, api.ErrRange}, {2, func(d *api.TaskDecl) { d.Ins = 9 }, api.ErrRange}, {2, func(d *api.TaskDecl) { d.Outs = 0; d.Where.Op = 99 }, api.ErrRange}, {2, func(d *api.TaskDecl) { d.Where = cond(t, "out(0) = 0"); d.Allow.Op = 99 }, api.ErrUse},
		{2, func(d *api.TaskDecl) { d.Allow = api.Expr{} }, api.ErrType}, {2, func(d *api.TaskDecl) { d.Allow = cond(t, "hears(0, 1)"); d.Calm.Op = 99 }, api.ErrUse}, {2, func(d *api.TaskDecl) { d.Calm = cond(t, "hears(0, 1)") }, api.ErrUse}, {2, func(d *api.TaskDecl) { d.Calm = api.Expr{Num: 3} }, api.ErrType},
		{5, func(d *api.TaskDecl) { d.Ins = 5; d.Where = api.Expr{}; d.Allow = cond(t, "0 = 1") }, api.ErrMany}, {2, func(d *api.TaskDecl) { d.Where = cond(t, "in(0) < 0") }, api.ErrEmpty}, {2, func(d *api.TaskDecl) { d.Allow = cond(t, "in(0) < out(0)") }, api.ErrEmpty},
		{5, func(d *api.TaskDecl) { d.Outs = 5; d.Allow = cond(t, "0 = 0") }, api.ErrMany}, {2, func(d *api.TaskDecl) { d.Calm = cond(t, "out(0) < in(0)") }, api.ErrEmpty},
	} {
		changed := d
		x.change(&changed)
		_, e := Task(x.n, changed)
		want(t, fmt.Sprint("Task ", i), e, x.e)
	}
}

func TestGraphs(t *testing.T) {
	l, e := Graphs(2, cond(t, "hears(0, 1)"))
	want(t, "Graphs", []any{l, e}, []any{[]api.Graph{{N: 2, Hears: [5]int{3, 2}}, {N: 2, Hears: [5]int{3, 3}}}, api.OK})
	for i, x := range []struct {
		n    int
		cond api.Expr
		e    api.Errno
	}{{9, api.Expr{Op: 99}, api.ErrArg}, {9, api.Expr{}, api.ErrType}, {9, cond(t, "in(0) = 0"), api.ErrUse}, {9, cond(t, "out(0) = 0"), api.ErrUse}, {0, cond(t, "0 = 0"), api.ErrRange}, {5, cond(t, "0 = 0"), api.ErrLimit}} {
		_, e := Graphs(x.n, x.cond)
		want(t, fmt.Sprint("Graphs ", i), e, x.e)
	}
	a, _ := Graphs(3, cond(t, "all p: hears(p, 0)"))
	b, _ := Graphs(3, cond(t, "not all p: hears(p, 0)"))
	all, _ := graph.All(3)
	want(t, "negation", len(a)+len(b), len(all))
	for _, g := range a {
		kernel, _ := graph.Kernel(g)
		want(t, "kernel", kernel&1, 1)
	}
	both, _ := Graphs(3, cond(t, "(all p: hears(p, 0)) and hears(1, 2)"))
	want(t, "conjunction", len(both), len(a)/2)
	want(t, "Truth", expr.Truth(cond(t, "hears(1, 2)"), expr.Scene{N: 3, Hears: both[0].Hears}), true)
}
