package expr

import (
	"fmt"
	"testing"

	"roundtable/api"
)

func want(t *testing.T, what string, got, wanted any) {
	t.Helper()
	if fmt.Sprint(got) != fmt.Sprint(wanted) {
		t.Errorf("%s: got %v, want %v", what, got, wanted)
	}
}

func op(op int, args ...api.Expr) api.Expr { return api.Expr{Op: op, Args: args} }

func num(n int) api.Expr { return api.Expr{Num: n} }

func variable(n int) api.Expr { return api.Expr{Op: api.ExprVar, Num: n} }

func in(x api.Expr) api.Expr { return op(api.ExprIn, x) }

func out(x api.Expr) api.Expr { return op(api.ExprOut, x) }

func equal(a, b api.Expr) api.Expr { return op(api.ExprEqual, a, b) }

func scene() Scene {
	return Scene{N: 3, In: []int{0, 1, 1}, Out: []int{1, 1, -1}, Hears: [5]int{3, 7, 4}}
}

func TestEval(t *testing.T) {
	p, q := variable(0), variable(1)
	yes, no := truth(true), truth(false)
	for i, x := range []struct {
		e api.Expr
		v int
	}{
		{op(api.ExprAll, op(api.ExprOr, equal(out(p), num(1)), op(api.ExprLess, out(p), num(0)))), 1},
		{op(api.ExprCount, equal(in(p), num(1))), 2}, {op(api.ExprCount, yes), 3}, {op(api.ExprCount, no), 0},
		{op(api.ExprAll, op(api.ExprSome, op(api.ExprAnd, op(api.ExprHears, p, q), equal(in(q), num(1))))), 1},
		{op(api.ExprSome, op(api.ExprAll, op(api.ExprHears, p, q))), 1}, {op(api.ExprAll, op(api.ExprAll, op(api.ExprHears, p, q))), 0}, {op(api.ExprSome, no), 0},
		{in(num(3)), -1}, {in(op(api.ExprSub, num(0), num(1))), -1}, {op(api.ExprAdd, out(num(2)), num(1)), 0}, {num(-7), -7},
		{op(api.ExprHears, num(2), num(0)), 0}, {op(api.ExprHears, num(3), num(0)), 0}, {op(api.ExprHears, num(0), num(-1)), 0}, {op(api.ExprHears, num(0), num(5)), 0},
		{op(api.ExprLess, num(1), num(1)), 0}, {op(api.ExprMost, num(1), num(1)), 1}, {op(api.ExprMost, num(2), num(1)), 0}, {op(api.ExprNot, no), 1}, {op(api.ExprAnd, yes, no), 0}, {op(api.ExprOr, no, no), 0},
	} {
		v, e := Eval(x.e, scene())
		want(t, fmt.Sprint("Eval ", i), []any{v, e}, []any{x.v, api.OK})
		kind, _ := Kind(x.e)
		want(t, fmt.Sprint("Truth ", i), Truth(x.e, scene()), kind == api.KindBool && x.v == 1)
	}
	short := Scene{N: 3, In: []int{5}, Vars: []int{9, 8}}
	for _, x := range [][2]int{{0, 5}, {1, -1}, {2, -1}, {4, -1}} {
		v, _ := Eval(in(num(x[0])), short)
		want(t, "In", v, x[1])
	}
	long := Scene{N: 1, In: []int{5, 6}}
	v, _ := Eval(in(num(1)), long)
	want(t, "In beyond N", v, -1)
	deep := op(api.ExprCount, equal(variable(20), num(1)))
	deep = equal(deep, num(1))
	for range 20 {
		deep = op(api.ExprAll, deep)
	}
	want(t, "nested quantifiers", Truth(deep, Scene{N: 5}), true)
	v, _ = Eval(op(api.ExprCount, equal(variable(2), op(api.ExprSub, variable(0), variable(1)))), short)
	want(t, "variables", v, 1)
}

func chain(depth int) api.Expr {
	e := truth(true)
	for range depth - 2 {
		e = op(api.ExprNot, e)
	}
	return e
}

func wide(nodes int) api.Expr {
	e := truth(true)
	for k := 3; k < nodes; k += 4 {
		e = op(api.ExprAnd, truth(true), e)
	}
	return e
}

func TestCheck(t *testing.T) {
	balanced := func() api.Expr {
		e := truth(true)
		for range 5 {
			e = op(api.ExprAnd, e, e)
		}
		return op(api.ExprNot, e) // 3 * 32 + 31 + 1
	}()
	for i, x := range []struct {
		e    api.Expr
		vars int
		err  api.Errno
	}{
		{num(0), -1, api.ErrRange}, {num(0), 25, api.ErrRange}, {num(0), 24, api.OK}, {balanced, 0, api.OK}, {op(api.ExprNot, balanced), 0, api.ErrMany},
		{chain(24), 0, api.OK}, {chain(25), 0, api.ErrDeep}, {wide(131), 0, api.ErrMany}, {api.Expr{Args: make([]api.Expr, 200)}, 0, api.ErrMany},
		{api.Expr{Op: 16}, 0, api.ErrArg}, {api.Expr{Op: -1, Args: []api.Expr{{Op: 99}}}, 0, api.ErrArg}, {op(api.ExprNot), 0, api.ErrShape}, {op(api.ExprConst, num(0)), 0, api.ErrShape},
		{variable(0), 0, api.ErrUnbound}, {variable(0), 1, api.OK}, {variable(-1), 1, api.ErrUnbound}, {op(api.ExprAll, equal(variable(1), variable(2))), 1, api.ErrUnbound},
		{op(api.ExprAll, equal(variable(1), variable(0))), 1, api.OK}, {num(1 << 20), 0, api.OK}, {num(1<<20 + 1), 0, api.ErrRange}, {num(-1<<20 - 1), 0, api.ErrRange},
		{api.Expr{Op: api.ExprNot, Num: 1, Args: []api.Expr{truth(true)}}, 0, api.ErrForm}, {op(api.ExprNot, num(0)), 0, api.ErrType}, {in(truth(true)), 0, api.ErrType},
		{op(api.ExprNot, api.Expr{Op: 77}), 0, api.ErrArg}, {equal(num(0), truth(true)), 0, api.ErrType}, {op(api.ExprAnd, op(api.ExprNot, num(1)), num(0)), 0, api.ErrType},
		{op(api.ExprAnd, op(api.ExprNot), api.Expr{Op: 99}), 0, api.ErrShape},
	} {
		want(t, fmt.Sprint("Check ", i), Check(x.e, x.vars), x.err)
		_, err := Fold(x.e, x.vars)
		want(t, "Fold", err, x.err)
		_, err = Free(x.e, x.vars)
		want(t, "Free", err, x.err)
		if x.err != api.OK {
			_, err = Negate(x.e, x.vars)
			want(t, "Negate", err, x.err)
			_, err = Bind(x.e, x.vars, 0)
			want(t, "Bind", err, x.err)
			if x.vars >= 0 {
				_, err = Eval(x.e, Scene{Vars: make([]int, x.vars)})
				want(t, "Eval", err, x.err)
				want(t, "Truth", Truth(x.e, Scene{N: 1, Vars: make([]int, x.vars)}), false)
			}
		}
	}
	big := []int{0, 1<<20 + 1}
	for _, s := range []Scene{{}, {N: 6}, {N: 1, In: big}, {N: 1, Out: big}, {N: 1, Vars: big}, {N: 1, In: []int{-1<<20 - 1}}} {
		_, err := Eval(num(0), s)
		want(t, "scene", err, api.ErrRange)
	}
	_, err := Kind(api.Expr{Op: 16})
	want(t, "Kind", err, api.ErrArg)
	kind, _ := Kind(op(api.ExprHears))
	want(t, "Kind", kind, api.KindBool)
}

func TestAnyExpression(t *testing.T) {
	deep := num(0)
	for range 200000 {
		deep = op(77, deep)
	}
	nodes, depth := Size(deep)
	want(t, "Size", []int{nodes, depth}, []int{200001, 200001})
	want(t, "Same", []bool{Same(deep, deep), Same(deep, deep.Args[0])}, []bool{true, false})
	want(t, "Uses", Uses(op(99, in(num(0)), op(api.ExprHears))), api.UseIn|api.UseHears)
	want(t, "Uses", Uses(out(deep)), api.UseOut)
	want(t, "Same", Same(api.Expr{Args: []api.Expr{}}, api.Expr{}), true)
	want(t, "Same", Same(num(1), num(2)), false)
	want(t, "Same", Same(op(api.ExprAnd, num(0), num(1)), op(api.ExprAnd, num(0), num(2))), false)
}

func TestRewrite(t *testing.T) {
	yes, no := truth(true), truth(false)
	a := equal(in(num(0)), num(0))
	for i, x := range []struct{ e, folded api.Expr }{
		{op(api.ExprAnd, op(api.ExprMost, op(api.ExprAdd, num(1), num(1)), num(2)), a), a},
		{op(api.ExprAdd, num(1<<20), num(1)), op(api.ExprAdd, num(1<<20), num(1))}, {op(api.ExprSub, num(3), num(5)), num(-2)}, {equal(num(4), num(4)), yes}, {equal(num(4), num(5)), no},
		{op(api.ExprNot, no), yes}, {op(api.ExprNot, op(api.ExprNot, a)), a}, {op(api.ExprOr, a, yes), yes}, {op(api.ExprOr, no, a), a}, {op(api.ExprAnd, a, no), no}, {op(api.ExprAnd, a, yes), a},
		{op(api.ExprOr, no, no), no}, {op(api.ExprAnd, yes, yes), yes}, {op(api.ExprAll, yes), yes}, {op(api.ExprSome, no), no}, {op(api.ExprAll, no), no}, {op(api.ExprCount, no), num(0)}, {op(api.ExprCount, yes), op(api.ExprCount, yes)},
		{op(api.ExprMost, op(api.ExprCount, no), num(0)), yes}, {op(api.ExprAll, a), op(api.ExprAll, a)}, {op(api.ExprLess, num(2), num(1)), no},
	} {
		folded, err := Fold(x.e, 0)
		want(t, fmt.Sprint("Fold ", i), []any{folded, err}, []any{x.folded, api.OK})
		again, _ := Fold(folded, 0)
		want(t, "Fold twice", again, folded)
		before, _ := Eval(x.e, scene())
		after, _ := Eval(folded, scene())
		want(t, "value", after, before)
	}
	less := op(api.ExprLess, in(variable(0)), num(2))
	most := op(api.ExprMost, num(2), in(variable(0)))
	for i, x := range []struct{ e, negation api.Expr }{
		{op(api.ExprNot, op(api.ExprAll, less)), op(api.ExprAll, less)}, {op(api.ExprAll, less), op(api.ExprSome, most)}, {op(api.ExprSome, most), op(api.ExprAll, less)}, {a, op(api.ExprNot, a)},
		{op(api.ExprAnd, a, yes), op(api.ExprOr, op(api.ExprNot, a), op(api.ExprNot, yes))}, {op(api.ExprOr, no, a), op(api.ExprAnd, op(api.ExprMost, num(0), num(0)), op(api.ExprNot, a))},
		{op(api.ExprHears, num(0), num(1)), op(api.ExprNot, op(api.ExprHears, num(0), num(1)))},
	} {
		negation, err := Negate(x.e, 0)
		want(t, fmt.Sprint("Negate ", i), []any{negation, err}, []any{x.negation, api.OK})
		want(t, "Truth", Truth(negation, scene()), !Truth(x.e, scene()))
	}
	_, err := Negate(num(0), 0)
	want(t, "Negate", err, api.ErrType)
	many := truth(true)
	for range 5 {
		many = op(api.ExprAnd, many, many)
	}
	_, err = Negate(many, 0)
	want(t, "Negate", []any{Check(many, 0), err}, []any{api.OK, api.ErrMany})
	deep := a
	for range 21 {
		deep = op(api.ExprAll, deep)
	}
	want(t, "Check", Check(deep, 0), api.OK)
	_, err = Negate(deep, 0)
	want(t, "Negate", err, api.ErrDeep)
}

func TestVariables(t *testing.T) {
	e := op(api.ExprAll, op(api.ExprAnd, equal(variable(0), variable(3)), equal(variable(2), variable(0))))
	l, err := Free(e, 3)
	want(t, "Free", []any{l, err}, []any{[]int{0, 2}, api.OK})
	bound, err := Bind(e, 3, -4)
	want(t, "Bind", []any{bound, err}, []any{op(api.ExprAll, op(api.ExprAnd, equal(num(-4), variable(2)), equal(variable(1), num(-4)))), api.OK})
	_, err = Bind(num(0), 0, 1<<30)
	want(t, "Bind", err, api.ErrNone)
	for _, value := range []int{1<<20 + 1, -1<<20 - 1, -1 << 63} {
		_, err = Bind(num(0), 1, value)
		want(t, "Bind", err, api.ErrRange)
	}
	want(t, "unchanged", e.Args[0].Args[0].Args[0].Num, 0)
}
