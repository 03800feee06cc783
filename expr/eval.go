package expr

import "roundtable/api"

// value returns the value of a well-formed expression in a well-formed scene.
func value(e api.Expr, s Scene) int {
	var eval func(e api.Expr, vars []int) int
	eval = func(e api.Expr, vars []int) int {
		arg := func(i int) int { return eval(e.Args[i], vars) }
		switch e.Op {
		case api.ExprConst:
			return e.Num
		case api.ExprVar:
			return vars[e.Num]
		case api.ExprIn:
			return element(s.In, s.N, arg(0))
		case api.ExprOut:
			return element(s.Out, s.N, arg(0))
		case api.ExprHears:
			return number(hears(s, arg(0), arg(1)))
		case api.ExprAdd:
			return arg(0) + arg(1)
		case api.ExprSub:
			return arg(0) - arg(1)
		case api.ExprEqual:
			return number(arg(0) == arg(1))
		case api.ExprLess:
			return number(arg(0) < arg(1))
		case api.ExprMost:
			return number(arg(0) <= arg(1))
		case api.ExprAnd:
			return number(arg(0) == 1 && arg(1) == 1)
		case api.ExprOr:
			return number(arg(0) == 1 || arg(1) == 1)
		case api.ExprNot:
			return 1 - arg(0)
		}
		bound := append(vars[:len(vars):len(vars)], 0)
		if !mentions(e.Args[0], len(vars)) {
			// One process stands for all of them: quantifiers may be nested deeply.
			once := eval(e.Args[0], bound) == 1
			return quantify(e.Op, s.N, func(int) bool { return once })
		}
		return quantify(e.Op, s.N, func(p int) bool {
			bound[len(vars)] = p
			return eval(e.Args[0], bound) == 1
		})
	}
	return eval(e, s.Vars)
}

// mentions reports whether an expression mentions a variable.
func mentions(e api.Expr, variable int) bool {
	if e.Op == api.ExprVar && e.Num == variable {
		return true
	}
	for _, arg := range e.Args {
		if mentions(arg, variable) {
			return true
		}
	}
	return false
}

// quantify returns the value of a quantifier whose Arg is true for some processes.
func quantify(op, n int, holds func(p int) bool) int {
	count := 0
	for p := range n {
		if holds(p) {
			count++
		}
		if op == api.ExprAll && count <= p {
			return 0
		}
		if op == api.ExprSome && count > 0 {
			return 1
		}
	}
	switch op {
	case api.ExprAll:
		return 1
	case api.ExprSome:
		return 0
	}
	return count
}

// element returns the element of a process, -1 if there is none.
func element(l []int, n, p int) int {
	if p < 0 || p >= n || p >= len(l) {
		return -1
	}
	return l[p]
}

func hears(s Scene, p, q int) bool {
	return p >= 0 && p < s.N && q >= 0 && q < s.N && s.Hears[p]>>q&1 == 1
}

func number(b bool) int {
	if b {
		return 1
	}
	return 0
}
