package printer

import (
	"fmt"
	"strings"
	"testing"

	"roundtable/api"
	"roundtable/parser"
)

func want(t *testing.T, what string, got, wanted any) {
	t.Helper()
	if fmt.Sprint(got) != fmt.Sprint(wanted) {
		t.Errorf("%s: got %v, want %v", what, got, wanted)
	}
}

type language struct {
	parse func(string) (api.Syntax, int, api.Errno)
	print func(api.Syntax) (string, api.Errno)
}

func languages() (program, cond, scheme, formula language) {
	return language{parser.Parse, Format}, language{parser.Cond, Cond}, language{parser.Scheme, Scheme}, language{parser.Formula, Formula}
}

func TestTexts(t *testing.T) {
	program, cond, scheme, formula := languages()
	for _, x := range []struct {
		l         language
		src, text string
	}{
		{cond, "(all p:(in(p)=0)) or (1<2 and not(x=1))", "(all p: in(p) = 0) or 1 < 2 and not x = 1"},
		{cond, "((a+b)+(c-d))<=007", "a + b + (c - d) <= 7"}, {cond, "(a or b)and(c and d)", "(a or b) and (c and d)"}, {cond, "not(a and b)", "not (a and b)"}, {cond, "not(all p:a)", "not all p: a"},
		{cond, "(not all p:a)and b", "(not all p: a) and b"}, {cond, "(a and all p:b)or c", "(a and all p: b) or c"}, {cond, "(a or some p:b)or(all q:c)", "(a or some p: b) or all q: c"}, {cond, "(count p(a or b)=in((a<b)))", "count p (a or b) = in((a < b))"},
		{cond, "(a=b)=c", "(a = b) = c"}, {cond, "a or(b or c)", "a or (b or c)"}, {cond, "(not(a or b))or c", "not (a or b) or c"}, {cond, "hears(a+1,(all p:b))", "hears(a + 1, (all p: b))"}, {cond, "(all p:a)=b", "(all p: a) = b"}, {cond, "not((all p: a) = b) and c", "not (all p: a) = b and c"},
		{scheme, "(a or b)then 2 crash( 1 )", "(a or b) then 2 crash(1)"}, {scheme, "(a then 1 b)then 2(c then 3 d)", "(a then 1 b) then 2 c then 3 d"}, {scheme, "a and(b and c)or(d)", "a and (b and c) or d"}, {scheme, "graphs((a)or b)then 1 snapshot", "graphs(a or b) then 1 snapshot"}, {scheme, "a then 1(b and c)", "a then 1 (b and c)"},
		{formula, "E({0,1},true)until C(everyone,at(2))", "E({0, 1}, true) until C(everyone, at(2))"}, {formula, "(true until true)until(true until true)", "(true until true) until true until true"}, {formula, "not(not(true)and D({},true))", "not (not true and D({}, true))"},
		{formula, "(true or true)and next(true or true)", "(true or true) and next(true or true)"}, {formula, "true or(true until true)", "true or (true until true)"}, {formula, "K(0,input(1,2))and(heard(0,1)and decided(1,1))", "K(0, input(1, 2)) and (heard(0, 1) and decided(1, 1))"},
		{program, "processes 02;task c inputs 2 outputs 3 where a allow b or c calm d;adversary e=f;formula g=true;problem h=c under e rounds 1;",
			"processes 2;\ntask c inputs 2 outputs 3 where a allow b or c calm d;\nadversary e = f;\nformula g = true;\nproblem h = c under e rounds 1;\n"},
		{program, "processes 1;", "processes 1;\n"},
	} {
		tree, _, e := x.l.parse(x.src)
		want(t, x.src, e, api.OK)
		text, e := x.l.print(tree)
		want(t, x.src, []any{text, e}, []any{x.text, api.OK})
		again, _, _ := x.l.parse(text)
		want(t, "tree of "+text, fmt.Sprintf("%+v", without(again)), fmt.Sprintf("%+v", without(tree)))
	}
}

func without(t api.Syntax) api.Syntax {
	t.At = 0
	kids := t.Kids
	t.Kids = nil
	for _, kid := range kids {
		t.Kids = append(t.Kids, without(kid))
	}
	return t
}

func node(kind int, text string, num int, kids ...api.Syntax) api.Syntax {
	return api.Syntax{Kind: kind, Text: text, Num: num, At: -5, Kids: kids}
}

func TestForms(t *testing.T) {
	a, one := node(api.NodeName, "a", 0), node(api.NodeNumber, "", 1)
	truth := node(api.NodeCall, "true", 0)
	for i, x := range []api.Syntax{
		{}, node(api.NodeName, "all", 0), node(api.NodeName, "a", 1), node(api.NodeName, "", 0), node(api.NodeName, "a", 0, a), node(api.NodeNumber, "1", 1), node(api.NodeNumber, "", -1), node(api.NodeNumber, "", 1<<20+1),
		node(api.NodeCall, "in", 0), node(api.NodeCall, "in", 0, a, a), node(api.NodeCall, "in", 1, a), node(api.NodeCall, "crash", 0, one), node(api.NodeBinary, "then", 1, a, a), node(api.NodeBinary, "=", 1, a, a), node(api.NodeBinary, "=", 0, a),
		node(api.NodeNot, "not", 0, a), node(api.NodeNot, "", 0), node(api.NodeQuantor, "all", 0, one, a), node(api.NodeQuantor, "every", 0, a, a), node(api.NodeQuantor, "all", 0, a), node(api.NodeSet, "", 0), node(15, "", 0), node(-1, "", 0), truth,
	} {
		_, e := Cond(x)
		want(t, fmt.Sprint("condition ", i), e, api.ErrForm)
	}
	for i, x := range []api.Syntax{one, truth, node(api.NodeCall, "crash", 0, a), node(api.NodeCall, "snapshot", 0, one), node(api.NodeNot, "", 0, a), node(api.NodeBinary, "then", -1, a, a), node(api.NodeBinary, "or", 1, a, a), node(api.NodeBinary, "until", 0, a, a), node(api.NodeCall, "graphs", 0, node(api.NodeName, "or", 0))} {
		_, e := Scheme(x)
		want(t, fmt.Sprint("scheme ", i), e, api.ErrForm)
	}
	set := node(api.NodeSet, "", 0, one)
	for i, x := range []api.Syntax{a, one, set, node(api.NodeCall, "K", 0, set, truth), node(api.NodeCall, "E", 0, one, truth), node(api.NodeCall, "E", 0, node(api.NodeSet, "everyone", 0, one), truth), node(api.NodeCall, "E", 0, node(api.NodeSet, "all", 0), truth), node(api.NodeCall, "at", 0, truth), node(api.NodeBinary, "=", 0, truth, truth), node(api.NodeCall, "next", 0, truth, truth)} {
		_, e := Formula(x)
		want(t, fmt.Sprint("formula ", i), e, api.ErrForm)
	}
	allow, where, calm := node(api.NodeAllow, "", 0, a), node(api.NodeWhere, "", 0, a), node(api.NodeCalm, "", 0, a)
	for i, kids := range [][]api.Syntax{
		{a}, {node(api.NodeTask, "t", 1, one)}, {node(api.NodeTask, "t", 1, one, where)}, {node(api.NodeTask, "t", 1, one, calm, allow)}, {node(api.NodeTask, "t", 1, one, allow, where)}, {node(api.NodeTask, "t", 1, one, where, allow, calm, calm)}, {node(api.NodeTask, "t", 1, allow)},
		{node(api.NodeTask, "t", -1, one, allow)}, {node(api.NodeTask, "in", 1, one, allow)}, {node(api.NodeAdversary, "a", 1, a)}, {node(api.NodeAdversary, "a", 0)}, {node(api.NodeFormula, "a", 0, a)}, {node(api.NodeProblem, "p", 0, a)}, {node(api.NodeProblem, "p", 0, a, one)}, {node(api.NodeProgram, "", 1)},
		{node(api.NodeTask, "t", 1, one, node(api.NodeAllow, "x", 0, a))},
	} {
		p := node(api.NodeProgram, "", 1, kids...)
		_, e := Format(p)
		want(t, fmt.Sprint("program ", i), []any{Check(p), e}, []any{api.ErrForm, api.ErrForm})
	}
	want(t, "program", Check(node(api.NodeProgram, "x", 1)), api.ErrForm)
	want(t, "program", Check(node(api.NodeProgram, "", 1, node(api.NodeTask, "t", 1, one, where, allow, calm))), api.OK)
}

func TestLimits(t *testing.T) {
	a := node(api.NodeName, "a", 0)
	deep, right := a, a
	for range 129 {
		deep = node(api.NodeNot, "", 0, deep)
		right = node(api.NodeBinary, "and", 0, a, right)
	}
	_, e := Cond(deep)
	want(t, "not", e, api.ErrDeep)
	_, e = Cond(deep.Kids[0])
	want(t, "not", e, api.OK)
	_, e = Cond(right) // the last operand has no parentheses
	want(t, "and", e, api.OK)
	_, e = Cond(node(api.NodeBinary, "and", 0, a, right))
	want(t, "and", e, api.ErrDeep)
	wide := a
	for range 20000 {
		wide = node(api.NodeBinary, "or", 0, wide, a)
	}
	_, e = Cond(wide)
	want(t, "or", e, api.ErrLong)
	for range 300000 {
		deep = node(api.NodeNot, "", 0, deep)
	}
	_, e = Cond(deep)
	want(t, "not", e, api.ErrLong)
	_, e = Cond(node(api.NodeNot, "", 0, node(api.NodeBinary, "or", 0, node(api.NodeName, "in", 0), deep)))
	want(t, "not", e, api.ErrForm)
	long := node(api.NodeProgram, "", 1)
	for range 2184 {
		long.Kids = append(long.Kids, node(api.NodeAdversary, "a", 0, node(api.NodeName, strings.Repeat("b", 14), 0)))
	}
	want(t, "program", Check(long), api.OK)
	long.Kids[7].Text = "a234567890"
	want(t, "program", Check(long), api.ErrLong)
}

// random returns a tree of a condition that depends on a seed.
func random(seed *uint32, size int) api.Syntax {
	next := func(n uint32) uint32 {
		*seed = *seed*1664525 + 1013904223
		return *seed >> 8 % n
	}
	a := node(api.NodeName, "a", 0)
	if size <= 1 {
		return a
	}
	switch k := next(10); k {
	case 0:
		return node(api.NodeNot, "", 0, random(seed, size-1))
	case 1, 2:
		return node(api.NodeQuantor, []string{"all", "some"}[k-1], 0, a, random(seed, size-1))
	case 3:
		return node(api.NodeQuantor, "count", 0, a, random(seed, size-1))
	default:
		return node(api.NodeBinary, []string{"or", "and", "=", "+", "or", "and"}[k-4], 0, random(seed, size/2), random(seed, size-size/2))
	}
}

func TestParentheses(t *testing.T) {
	seed := uint32(1)
	for range 3000 {
		tree := random(&seed, 9)
		text, _ := Cond(tree)
		again, _, e := parser.Cond(text)
		want(t, text, []any{fmt.Sprintf("%+v", without(again)), e}, []any{fmt.Sprintf("%+v", without(tree)), api.OK})
		for i := range len(text) {
			if text[i] != '(' || i > 0 && strings.HasSuffix(text[:i], "count a ") {
				continue
			}
			k, open := i, 0
			for ; k < len(text); k++ {
				open += strings.Count(text[k:k+1], "(") - strings.Count(text[k:k+1], ")")
				if open == 0 {
					break
				}
			}
			other, _, e := parser.Cond(text[:i] + " " + text[i+1:k] + " " + text[k+1:])
			if e == api.OK && fmt.Sprintf("%+v", without(other)) == fmt.Sprintf("%+v", without(tree)) {
				t.Errorf("parentheses at %d of %s can be left out", i, text)
			}
		}
	}
}
