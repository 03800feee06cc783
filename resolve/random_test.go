package resolve

import (
	"fmt"
	"math/rand"
	"testing"

	"roundtable/api"
	"roundtable/expr"
	"roundtable/parser"
	"roundtable/printer"
)

// integer returns a random integer expression with some variables.
func integer(r *rand.Rand, vars, depth int) api.Expr {
	arg := func() api.Expr { return integer(r, vars, depth-1) }
	k := r.Intn(7)
	if depth <= 1 {
		k = r.Intn(2)
	}
	switch {
	case k == 1 && vars > 0:
		return api.Expr{Op: api.ExprVar, Num: r.Intn(vars)}
	case k < 2:
		return api.Expr{Num: r.Intn(9)}
	case k < 4:
		return api.Expr{Op: api.ExprIn + k - 2, Args: []api.Expr{arg()}}
	case k == 4:
		return api.Expr{Op: api.ExprCount, Args: []api.Expr{truth(r, vars+1, depth-1)}}
	}
	return api.Expr{Op: api.ExprAdd + k - 5, Args: []api.Expr{arg(), arg()}}
}

// truth returns a random condition with some variables.
func truth(r *rand.Rand, vars, depth int) api.Expr {
	switch k := r.Intn(8); {
	case depth <= 2 || k == 7:
		return api.Expr{Op: api.ExprEqual + r.Intn(3), Args: []api.Expr{integer(r, vars, depth-1), integer(r, vars, depth-1)}}
	case k < 2:
		return api.Expr{Op: api.ExprAnd + k, Args: []api.Expr{truth(r, vars, depth-1), truth(r, vars, depth-1)}}
	case k < 4:
		return api.Expr{Op: api.ExprNot, Args: []api.Expr{truth(r, vars, depth-1)}}
	case k < 6:
		return api.Expr{Op: api.ExprAll + k - 4, Args: []api.Expr{truth(r, vars+1, depth-1)}}
	}
	return api.Expr{Op: api.ExprHears, Args: []api.Expr{integer(r, vars, depth-1), integer(r, vars, depth-1)}}
}

// anyScheme returns a random scheme behind two adversaries.
func anyScheme(r *rand.Rand, depth int) api.Scheme {
	s := api.Scheme{Op: r.Intn(api.SchemeThen + 1)}
	if depth <= 1 {
		s.Op = r.Intn(api.SchemeGraphs + 1)
	}
	switch {
	case s.Op == api.SchemeRef:
		s.Num = r.Intn(2)
	case s.Op == api.SchemeGraphs:
		s.Cond = api.Expr{Op: api.ExprHears, Args: []api.Expr{{Num: 1}, {}}}
	case schemeMost(s.Op) > 0:
		s.Num = r.Intn(schemeMost(s.Op) + 1)
	}
	if s.Op > api.SchemeGraphs {
		s.Args = []api.Scheme{anyScheme(r, depth-1), anyScheme(r, depth-1)}
	}
	return s
}

// anyFormula returns a random formula for three processes.
func anyFormula(r *rand.Rand, depth int) api.Formula {
	f := api.Formula{Op: r.Intn(api.FormulaUntil + 1)}
	if depth <= 1 {
		f.Op = r.Intn(api.FormulaAt + 1)
	}
	for _, field := range formulaFields(&f) {
		*field = r.Intn(fieldValues(f.Op, field, &f, 3))
	}
	if grouped(f.Op) {
		f.Group = r.Intn(8)
	}
	args := 1
	switch f.Op {
	case api.FormulaAnd, api.FormulaOr, api.FormulaUntil:
		args = 2
	}
	for range args {
		if f.Op > api.FormulaAt {
			f.Args = append(f.Args, anyFormula(r, depth-1))
		}
	}
	return f
}

func TestRandom(t *testing.T) {
	r := rand.New(rand.NewSource(1))
	names := []string{"a", "b"}
	for range 3000 {
		if e := truth(r, 0, 2+r.Intn(6)); CheckCond(e, 7) == api.OK {
			tree, _ := CondTree(e)
			text, _ := printer.Cond(tree)
			back, _, _ := parser.Cond(text)
			again, _, err := Cond(back, 7)
			want(t, text, []any{expr.Same(again, e), err}, []any{true, api.OK})
		}
		if s := anyScheme(r, 1+r.Intn(5)); CheckScheme(s, 2) == api.OK {
			tree, _ := SchemeTree(s, names)
			text, _ := printer.Scheme(tree)
			back, _, _ := parser.Scheme(text)
			again, _, err := Scheme(back, names)
			want(t, text, []any{fmt.Sprint(again), err}, []any{fmt.Sprint(s), api.OK})
		}
		if f := anyFormula(r, 1+r.Intn(6)); CheckFormula(f, 3) == api.OK {
			tree, _ := FormulaTree(f, 3)
			text, _ := printer.Formula(tree)
			back, _, _ := parser.Formula(text)
			again, _, err := Formula(back, 3)
			want(t, text, []any{fmt.Sprint(again), err}, []any{fmt.Sprint(f), api.OK})
		}
	}
}
