package protocol

import (
	"fmt"
	"slices"
	"testing"

	"roundtable/api"
	"roundtable/complex"
	"roundtable/execution"
	"roundtable/failure"
	"roundtable/library"
	"roundtable/simplex"
	"roundtable/task"
)

func want(t *testing.T, what string, got, wanted any) {
	t.Helper()
	if fmt.Sprint(got) != fmt.Sprint(wanted) {
		t.Errorf("%s: got %v, want %v", what, got, wanted)
	}
}

func v(color, label int) api.Vertex { return api.Vertex{Color: color, Label: label} }

func example(t *testing.T) api.System {
	t.Helper()
	c, _ := library.Consensus(2, 2)
	c, _ = task.Restrict(c, []int{0, 1})
	move := func(row int) api.Move {
		return api.Move{Round: api.Round{Graph: api.Graph{N: 2, Hears: [5]int{row, 3}}}}
	}
	s, e := execution.Build(api.Problem{Task: c, Adversary: api.Adversary{N: 2, States: [][]api.Move{{move(1), move(3)}}}, Rounds: 1})
	want(t, "Build", e, api.OK)
	return s
}

func TestExample(t *testing.T) {
	s := example(t)
	c, e := Complex(s)
	want(t, "Complex", []any{c, e}, []any{api.Complex{Facets: [][]api.Vertex{{v(0, 2), v(1, 3)}, {v(0, 2), v(1, 6)}, {v(0, 4), v(1, 3)}, {v(0, 7), v(1, 6)}}}, api.OK})
	c, e = Case(s, 0)
	want(t, "Case", []any{c, e}, []any{api.Complex{Facets: [][]api.Vertex{{v(0, 2), v(1, 3)}, {v(0, 4), v(1, 3)}}}, api.OK})
	l, e := Simplex(s, 3)
	want(t, "Simplex", []any{l, e}, []any{[]api.Vertex{v(0, 7), v(1, 6)}, api.OK})
	m, e := Project(s)
	want(t, "Project", []any{m, e}, []any{api.Map{From: []api.Vertex{v(0, 2), v(0, 4), v(0, 7), v(1, 3), v(1, 6)}, To: []api.Vertex{v(0, 0), v(0, 0), v(0, 0), v(1, 0), v(1, 1)}}, api.OK})
	for _, x := range []struct {
		l     []api.Vertex
		cases []int
	}{{[]api.Vertex{v(0, 2)}, []int{0, 1}}, {[]api.Vertex{v(0, 4), v(1, 3)}, []int{0}}, {[]api.Vertex{v(1, 6)}, []int{1}}, {[]api.Vertex{v(0, 4), v(1, 6)}, nil}, {[]api.Vertex{v(7, 4)}, nil}} {
		cases, e := Cases(s, x.l)
		want(t, "Cases", []any{cases, e}, []any{x.cases, api.OK})
	}
	c, _ = Inputs(s.Problem.Task)
	want(t, "Inputs", c, api.Complex{Facets: [][]api.Vertex{{v(0, 0), v(1, 0)}, {v(0, 0), v(1, 1)}}})
	c, _ = Outputs(s.Problem.Task)
	want(t, "Outputs", c, api.Complex{Facets: [][]api.Vertex{{v(0, 0), v(1, 0)}, {v(0, 1), v(1, 1)}}})
	c, _ = Image(s.Problem.Task, 0)
	want(t, "Image", c, api.Complex{Facets: [][]api.Vertex{{v(0, 0), v(1, 0)}}})
	commit, _ := library.Commit(2)
	c, _ = Image(commit, 3)
	want(t, "Image without Calm", len(c.Facets), 2)
}

func TestErrors(t *testing.T) {
	s := example(t)
	bad := s
	bad.Executions = nil
	_, e := Complex(bad)
	want(t, "Complex", e, api.ErrForm)
	_, e = Case(bad, 9)
	want(t, "Case", e, api.ErrForm)
	_, e = Simplex(bad, 9)
	want(t, "Simplex", e, api.ErrForm)
	_, e = Project(bad)
	want(t, "Project", e, api.ErrForm)
	_, e = Cases(bad, nil)
	want(t, "Cases", e, api.ErrForm)
	_, e = Cases(s, nil)
	want(t, "Cases", e, api.ErrEmpty)
	_, e = Inputs(api.Task{})
	want(t, "Inputs", e, api.ErrRange)
	_, e = Outputs(api.Task{})
	want(t, "Outputs", e, api.ErrRange)
	_, e = Image(api.Task{}, 9)
	want(t, "Image", e, api.ErrRange)
	for _, i := range []int{-1, 4} {
		_, e = Case(s, i)
		want(t, "Case", e, api.ErrNone)
		_, e = Simplex(s, i)
		want(t, "Simplex", e, api.ErrNone)
		_, e = Image(s.Problem.Task, i)
		want(t, "Image", e, api.ErrNone)
	}
	many := api.Task{N: 5, Ins: 5, Outs: 6}
	for k := range 5 {
		c := api.Case{In: []int{0, 0, 0, 0, k}}
		for code := range 1024 {
			x := k*1024 + code
			c.Out = append(c.Out, []int{x / 1296, x / 216 % 6, x / 36 % 6, x / 6 % 6, x % 6})
		}
		many.Cases = append(many.Cases, c)
	}
	_, e = Outputs(many)
	want(t, "Outputs", []any{task.Check(many), e}, []any{api.OK, api.ErrMany})
	many.Cases = many.Cases[:4]
	_, e = Outputs(many)
	want(t, "Outputs", e, api.OK)
}

func TestFaulty(t *testing.T) {
	c, _ := library.Consensus(2, 2)
	crash, _ := failure.Crash(2, 2)
	s, _ := execution.Build(api.Problem{Task: c, Adversary: crash, Rounds: 1})
	p, _ := Complex(s)
	vertices, _ := complex.Vertices(p)
	relevant, _ := execution.Relevant(s)
	want(t, "vertices", len(vertices), len(relevant))
	var parts api.Complex
	for i := range c.Cases {
		one, _ := Case(s, i)
		parts, _ = complex.Union(parts, one)
	}
	want(t, "union of the cases", parts, p)
	silent := 0
	for e := range s.Executions {
		l, err := Simplex(s, e)
		obliged, _ := execution.Obliged(s, e)
		if obliged == 0 {
			silent++
			want(t, "Simplex", err, api.ErrEmpty)
			continue
		}
		colors, _ := simplex.Colors(l)
		in, _ := complex.Contains(p, l)
		want(t, "Simplex", []any{colors, in}, []any{obliged, true})
		cases, _ := Cases(s, l)
		want(t, "Cases", slices.Contains(cases, s.Executions[e].Case), true)
	}
	want(t, "without obliged processes", silent, 4)
}
