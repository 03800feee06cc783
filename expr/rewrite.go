package expr

import "roundtable/api"

// Fold replaces constant parts.
func Fold(e api.Expr, vars int) (api.Expr, api.Errno) {
	if err := Check(e, vars); err != api.OK {
		return api.Expr{}, err
	}
	return fold(e), api.OK
}

// Negate returns the negation of a condition.
func Negate(e api.Expr, vars int) (api.Expr, api.Errno) {
	if err := Check(e, vars); err != api.OK {
		return api.Expr{}, err
	}
	if operations[e.Op].kind != api.KindBool {
		return api.Expr{}, api.ErrType
	}
	negation := negate(e)
	nodes, depth := Size(negation)
	if nodes > api.MaxNodes {
		return api.Expr{}, api.ErrMany
	}
	if depth > api.MaxDepth {
		return api.Expr{}, api.ErrDeep
	}
	return negation, api.OK
}

// Bind replaces the outermost variable by a number.
func Bind(e api.Expr, vars, value int) (api.Expr, api.Errno) {
	if err := Check(e, vars); err != api.OK {
		return api.Expr{}, err
	}
	if vars == 0 {
		return api.Expr{}, api.ErrNone
	}
	if value < -api.MaxNumber || value > api.MaxNumber {
		return api.Expr{}, api.ErrRange
	}
	return rebuild(e, func(e api.Expr) api.Expr {
		if e.Op != api.ExprVar {
			return e
		}
		if e.Num == 0 {
			return constant(value)
		}
		return api.Expr{Op: api.ExprVar, Num: e.Num - 1}
	}), api.OK
}

// rebuild returns a copy of an expression in which each node, behind its Args, is replaced.
func rebuild(e api.Expr, replace func(api.Expr) api.Expr) api.Expr {
	copied := api.Expr{Op: e.Op, Num: e.Num}
	for _, arg := range e.Args {
		copied.Args = append(copied.Args, rebuild(arg, replace))
	}
	return replace(copied)
}

func constant(value int) api.Expr { return api.Expr{Op: api.ExprConst, Num: value} }

// truth returns the expression that is always true, or never.
func truth(is bool) api.Expr {
	op := api.ExprLess
	if is {
		op = api.ExprEqual
	}
	return api.Expr{Op: op, Args: []api.Expr{constant(0), constant(0)}}
}

func isTruth(e api.Expr, is bool) bool { return Same(e, truth(is)) }

// fold returns the folded expression.
func fold(e api.Expr) api.Expr {
	return rebuild(e, func(e api.Expr) api.Expr {
		switch e.Op {
		case api.ExprAdd, api.ExprSub, api.ExprEqual, api.ExprLess, api.ExprMost:
			return foldConstants(e)
		case api.ExprNot:
			arg := e.Args[0]
			switch {
			case isTruth(arg, true) || isTruth(arg, false):
				return truth(isTruth(arg, false))
			case arg.Op == api.ExprNot:
				return arg.Args[0]
			}
		case api.ExprAnd, api.ExprOr:
			return foldPair(e)
		case api.ExprAll, api.ExprSome:
			if isTruth(e.Args[0], true) || isTruth(e.Args[0], false) {
				return e.Args[0]
			}
		case api.ExprCount:
			if isTruth(e.Args[0], false) {
				return constant(0)
			}
		}
		return e
	})
}

// foldConstants folds a calculation or a comparison whose Args are folded.
func foldConstants(e api.Expr) api.Expr {
	a, b := e.Args[0], e.Args[1]
	if a.Op != api.ExprConst || b.Op != api.ExprConst {
		return e
	}
	v := value(e, Scene{})
	if operations[e.Op].kind == api.KindBool {
		return truth(v == 1)
	}
	if v < -api.MaxNumber || v > api.MaxNumber {
		return e
	}
	return constant(v)
}

// foldPair folds a conjunction or a disjunction whose Args are folded.
func foldPair(e api.Expr) api.Expr {
	neutral := e.Op == api.ExprAnd
	for i, arg := range e.Args {
		if isTruth(arg, neutral) {
			return e.Args[1-i]
		}
	}
	for _, arg := range e.Args {
		if isTruth(arg, !neutral) {
			return arg
		}
	}
	return e
}

// negate returns the negation of a condition.
func negate(e api.Expr) api.Expr {
	switch e.Op {
	case api.ExprLess:
		return api.Expr{Op: api.ExprMost, Args: []api.Expr{clone(e.Args[1]), clone(e.Args[0])}}
	case api.ExprMost:
		return api.Expr{Op: api.ExprLess, Args: []api.Expr{clone(e.Args[1]), clone(e.Args[0])}}
	case api.ExprNot:
		return clone(e.Args[0])
	}
	dual := api.Expr{}
	switch e.Op {
	case api.ExprAnd:
		dual.Op = api.ExprOr
	case api.ExprOr:
		dual.Op = api.ExprAnd
	case api.ExprAll:
		dual.Op = api.ExprSome
	case api.ExprSome:
		dual.Op = api.ExprAll
	default:
		return api.Expr{Op: api.ExprNot, Args: []api.Expr{clone(e)}}
	}
	for _, arg := range e.Args {
		dual.Args = append(dual.Args, negate(arg))
	}
	return dual
}

func clone(e api.Expr) api.Expr {
	return rebuild(e, func(e api.Expr) api.Expr { return e })
}
