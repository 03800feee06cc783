package resolve

import "roundtable/api"

// words says which operations the words and the signs of the language stand for.
type words struct {
	exprs, schemes, formulas map[string]int
}

func newWords() words {
	return words{
		exprs: map[string]int{
			"in": api.ExprIn, "out": api.ExprOut, "hears": api.ExprHears, "+": api.ExprAdd, "-": api.ExprSub,
			"=": api.ExprEqual, "!=": api.ExprEqual, "<": api.ExprLess, "<=": api.ExprMost,
			"and": api.ExprAnd, "or": api.ExprOr, "all": api.ExprAll, "some": api.ExprSome, "count": api.ExprCount,
		},
		schemes: map[string]int{
			"crash": api.SchemeCrash, "send": api.SchemeSend, "receive": api.SchemeReceive, "omit": api.SchemeOmit,
			"partition": api.SchemePartition, "snapshot": api.SchemeSnapshot, "graphs": api.SchemeGraphs,
			"or": api.SchemeOr, "and": api.SchemeAnd, "then": api.SchemeThen,
		},
		formulas: map[string]int{
			"true": api.FormulaTrue, "input": api.FormulaIn, "given": api.FormulaGiven, "heard": api.FormulaHeard,
			"faulty": api.FormulaFaulty, "decided": api.FormulaDecided, "at": api.FormulaAt, "and": api.FormulaAnd, "or": api.FormulaOr,
			"K": api.FormulaKnows, "E": api.FormulaEveryone, "D": api.FormulaDistributed, "C": api.FormulaCommon,
			"next": api.FormulaNext, "always": api.FormulaAlways, "eventually": api.FormulaEventually, "until": api.FormulaUntil,
		},
	}
}

// texts returns the word of each operation; != stands for two of them.
func texts(operations map[string]int) map[int]string {
	l := map[int]string{}
	for text, op := range operations {
		if text != "!=" {
			l[op] = text
		}
	}
	return l
}

// schemeMost returns the greatest number that an operation of schemes may have.
func schemeMost(op int) int {
	switch op {
	case api.SchemeCrash, api.SchemeSend, api.SchemeReceive, api.SchemeOmit:
		return api.MaxProcs
	case api.SchemePartition, api.SchemeThen:
		return api.MaxRounds
	}
	return 0
}

// formulaFields returns the numbers that the operation of a formula uses, in the order of its arguments.
func formulaFields(f *api.Formula) []*int {
	switch f.Op {
	case api.FormulaIn, api.FormulaDecided:
		return []*int{&f.Proc, &f.Value}
	case api.FormulaGiven, api.FormulaAt:
		return []*int{&f.Value}
	case api.FormulaHeard:
		return []*int{&f.Proc, &f.Other}
	case api.FormulaFaulty, api.FormulaKnows:
		return []*int{&f.Proc}
	}
	return nil
}

// fieldValues returns how many values a number of a formula may have.
func fieldValues(op int, field *int, f *api.Formula, n int) int {
	switch {
	case field != &f.Value:
		return n
	case op == api.FormulaAt:
		return api.MaxRounds + 1
	}
	return api.MaxValues
}

func exprArgs(e api.Expr) []api.Expr { return e.Args }

func schemeArgs(s api.Scheme) []api.Scheme { return s.Args }

func formulaArgs(f api.Formula) []api.Formula { return f.Args }

// measure returns the number of nodes and the depth; it gives up when there are too many nodes.
func measure[T any](root T, args func(T) []T) (int, int) {
	type place struct {
		node  T
		depth int
	}
	nodes, deepest := 0, 0
	for stack := []place{{root, 1}}; len(stack) > 0 && nodes <= api.MaxNodes; {
		top := stack[len(stack)-1]
		stack = stack[:len(stack)-1]
		nodes++
		deepest = max(deepest, top.depth)
		below := args(top.node)
		if len(below) > api.MaxNodes {
			return len(below), deepest
		}
		for _, arg := range below {
			stack = append(stack, place{arg, top.depth + 1})
		}
	}
	return nodes, deepest
}

// bounds returns the error of a number of nodes and a depth.
func bounds(nodes, depth int) api.Errno {
	if nodes > api.MaxNodes {
		return api.ErrMany
	}
	if depth > api.MaxDepth {
		return api.ErrDeep
	}
	return api.OK
}
