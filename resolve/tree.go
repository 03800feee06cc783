package resolve

import (
	"slices"
	"strconv"

	"roundtable/api"
	"roundtable/lexer"
)

// Source returns the tree of a program.
func Source(p api.Program) (api.Syntax, api.Errno) {
	if e := Check(p); e != api.OK {
		return api.Syntax{}, e
	}
	w := newWords()
	tree := api.Syntax{Kind: api.NodeProgram, Num: p.N}
	add := func(kind int, name string, num int, kids ...api.Syntax) {
		tree.Kids = append(tree.Kids, api.Syntax{Kind: kind, Text: name, Num: num, Kids: kids})
	}
	for _, d := range p.Tasks {
		kids := []api.Syntax{number(d.Outs)}
		if !absent(d.Where) {
			kids = append(kids, node(api.NodeWhere, "", w.cond(d.Where, 0)))
		}
		kids = append(kids, node(api.NodeAllow, "", w.cond(d.Allow, 0)))
		if !absent(d.Calm) {
			kids = append(kids, node(api.NodeCalm, "", w.cond(d.Calm, 0)))
		}
		add(api.NodeTask, d.Name, d.Ins, kids...)
	}
	names := adversaryNames(p)
	for _, d := range p.Adversaries {
		add(api.NodeAdversary, d.Name, 0, w.scheme(d.Scheme, names))
	}
	for _, d := range p.Formulas {
		add(api.NodeFormula, d.Name, 0, w.formula(d.Formula, p.N))
	}
	for _, d := range p.Problems {
		add(api.NodeProblem, d.Name, d.Rounds, node(api.NodeName, p.Tasks[d.Task].Name), node(api.NodeName, names[d.Adversary]))
	}
	return tree, api.OK
}

// CondTree returns the tree of a condition.
func CondTree(e api.Expr) (api.Syntax, api.Errno) {
	if err := CheckCond(e, api.UseIn|api.UseOut|api.UseHears); err != api.OK {
		return api.Syntax{}, err
	}
	return newWords().cond(e, 0), api.OK
}

// SchemeTree returns the tree of a scheme, with the names of the adversaries.
func SchemeTree(s api.Scheme, names []string) (api.Syntax, api.Errno) {
	used := map[string]bool{}
	for _, name := range names {
		if e := lexer.Name(name); e != api.OK {
			return api.Syntax{}, e
		}
		if used[name] {
			return api.Syntax{}, api.ErrTwice
		}
		used[name] = true
	}
	if e := CheckScheme(s, len(names)); e != api.OK {
		return api.Syntax{}, e
	}
	return newWords().scheme(s, names), api.OK
}

// FormulaTree returns the tree of a formula.
func FormulaTree(f api.Formula, n int) (api.Syntax, api.Errno) {
	if e := CheckFormula(f, n); e != api.OK {
		return api.Syntax{}, e
	}
	return newWords().formula(f, n), api.OK
}

func node(kind int, text string, kids ...api.Syntax) api.Syntax {
	return api.Syntax{Kind: kind, Text: text, Kids: slices.Clone(kids)}
}

func number(n int) api.Syntax { return api.Syntax{Kind: api.NodeNumber, Num: n} }

func variable(i int) api.Syntax { return node(api.NodeName, "p"+strconv.Itoa(i)) }

// cond returns the tree of a condition inside of some quantifiers.
func (w words) cond(e api.Expr, quantifiers int) api.Syntax {
	text := texts(w.exprs)
	var tree func(e api.Expr, quantifiers int) api.Syntax
	tree = func(e api.Expr, quantifiers int) api.Syntax {
		var kids []api.Syntax
		quantifier := e.Op == api.ExprAll || e.Op == api.ExprSome || e.Op == api.ExprCount
		if quantifier {
			kids = append(kids, variable(quantifiers))
			quantifiers++
		}
		for _, arg := range e.Args {
			kids = append(kids, tree(arg, quantifiers))
		}
		switch {
		case e.Op == api.ExprConst:
			return number(e.Num)
		case e.Op == api.ExprVar:
			return variable(e.Num)
		case quantifier:
			return node(api.NodeQuantor, text[e.Op], kids...)
		case e.Op == api.ExprNot && e.Args[0].Op == api.ExprEqual:
			return node(api.NodeBinary, "!=", kids[0].Kids...)
		case e.Op == api.ExprNot:
			return node(api.NodeNot, "", kids...)
		case e.Op == api.ExprIn || e.Op == api.ExprOut || e.Op == api.ExprHears:
			return node(api.NodeCall, text[e.Op], kids...)
		}
		return node(api.NodeBinary, text[e.Op], kids...)
	}
	return tree(e, quantifiers)
}

func (w words) scheme(s api.Scheme, names []string) api.Syntax {
	text := texts(w.schemes)[s.Op]
	switch s.Op {
	case api.SchemeRef:
		return node(api.NodeName, names[s.Num])
	case api.SchemeSnapshot:
		return node(api.NodeCall, text)
	case api.SchemeGraphs:
		return node(api.NodeCall, text, w.cond(s.Cond, 0))
	case api.SchemeOr, api.SchemeAnd, api.SchemeThen:
		tree := node(api.NodeBinary, text, w.scheme(s.Args[0], names), w.scheme(s.Args[1], names))
		tree.Num = s.Num
		return tree
	}
	return node(api.NodeCall, text, number(s.Num))
}

func (w words) formula(f api.Formula, n int) api.Syntax {
	text := texts(w.formulas)[f.Op]
	var kids []api.Syntax
	for _, field := range formulaFields(&f) {
		kids = append(kids, number(*field))
	}
	if grouped(f.Op) {
		kids = append(kids, group(f.Group, n))
	}
	for _, arg := range f.Args {
		kids = append(kids, w.formula(arg, n))
	}
	switch f.Op {
	case api.FormulaNot:
		return node(api.NodeNot, "", kids...)
	case api.FormulaAnd, api.FormulaOr, api.FormulaUntil:
		return node(api.NodeBinary, text, kids...)
	}
	return node(api.NodeCall, text, kids...)
}

// group returns the tree of a set of processes.
func group(set, n int) api.Syntax {
	if set == 1<<n-1 {
		return node(api.NodeSet, "everyone")
	}
	tree := node(api.NodeSet, "")
	for p := range n {
		if set>>p&1 == 1 {
			tree.Kids = append(tree.Kids, number(p))
		}
	}
	return tree
}
