package console

import (
	"slices"

	"roundtable/api"
	"roundtable/combine"
	"roundtable/condition"
	"roundtable/execution"
	"roundtable/parser"
	"roundtable/printer"
	"roundtable/resolve"
	rules "roundtable/rule"
)

// session is a state in order, with the problem in use and its system.
type session struct {
	State
	problem api.Problem
	system  api.System
}

// newSession returns the session of a state that was brought in order.
func newSession(s State) *session {
	x := &session{State: Begin()}
	if !s.Loaded || resolve.Check(s.Program) != api.OK {
		return x
	}
	x.State = State{Program: cloneProgram(s.Program), Loaded: true, Problem: -1}
	if s.Problem < 0 || s.Problem >= len(s.Program.Problems) || x.open(s.Problem) != api.OK {
		return x
	}
	x.Problem = s.Problem
	if rules.Check(x.system, s.Rule) == api.OK {
		x.Rule = api.Rule{Out: slices.Clone(s.Rule.Out)}
	}
	return x
}

// open makes the problem with an index and its system.
func (x *session) open(index int) api.Errno {
	d := x.Program.Problems[index]
	t, e := condition.Task(x.Program.N, x.Program.Tasks[d.Task])
	if e != api.OK {
		return e
	}
	adversaries, e := combine.Build(x.Program)
	if e != api.OK {
		return e
	}
	p := api.Problem{Task: t, Adversary: adversaries[d.Adversary], Rounds: d.Rounds}
	s, e := execution.Build(p)
	if e != api.OK {
		return e
	}
	x.problem, x.system = p, s
	return api.OK
}

// read returns the program of a text.
func read(text string) (api.Program, failure) {
	tree, at, e := parser.Parse(text)
	if e != api.OK {
		return api.Program{}, failedAt(at, e)
	}
	p, at, e := resolve.Program(tree)
	if e != api.OK {
		return api.Program{}, failedAt(at, e)
	}
	return p, failure{}
}

// text returns the text of the program.
func (x *session) text() (string, api.Errno) {
	tree, e := resolve.Source(x.Program)
	if e != api.OK {
		return "", e
	}
	return printer.Format(tree)
}

// cloneProgram returns a copy of a program.
func cloneProgram(p api.Program) api.Program {
	c := api.Program{N: p.N, Problems: slices.Clone(p.Problems)}
	for _, d := range p.Tasks {
		d.Where, d.Allow, d.Calm = cloneExpr(d.Where), cloneExpr(d.Allow), cloneExpr(d.Calm)
		c.Tasks = append(c.Tasks, d)
	}
	for _, d := range p.Adversaries {
		d.Scheme = cloneScheme(d.Scheme)
		c.Adversaries = append(c.Adversaries, d)
	}
	for _, d := range p.Formulas {
		d.Formula = cloneFormula(d.Formula)
		c.Formulas = append(c.Formulas, d)
	}
	return c
}

// cloned returns a copy of a list whose elements are copied by a function.
func cloned[T any](l []T, clone func(T) T) []T {
	var c []T
	for _, x := range l {
		c = append(c, clone(x))
	}
	return c
}

func cloneExpr(e api.Expr) api.Expr {
	e.Args = cloned(e.Args, cloneExpr)
	return e
}

func cloneScheme(s api.Scheme) api.Scheme {
	s.Cond, s.Args = cloneExpr(s.Cond), cloned(s.Args, cloneScheme)
	return s
}

func cloneFormula(f api.Formula) api.Formula {
	f.Args = cloned(f.Args, cloneFormula)
	return f
}
