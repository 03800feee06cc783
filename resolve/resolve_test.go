package resolve

import (
	"fmt"
	"strings"
	"testing"

	"roundtable/api"
	"roundtable/parser"
	"roundtable/printer"
)

func want(t *testing.T, what string, got, wanted any) {
	t.Helper()
	if fmt.Sprint(got) != fmt.Sprint(wanted) {
		t.Errorf("%s: got %v, want %v", what, got, wanted)
	}
}

func parsed(t *testing.T, parse func(string) (api.Syntax, int, api.Errno), src string) api.Syntax {
	t.Helper()
	tree, at, e := parse(src)
	if e != api.OK {
		t.Fatalf("%s: %v at %d", src, e, at)
	}
	return tree
}

func TestCond(t *testing.T) {
	all := api.UseIn | api.UseOut | api.UseHears
	e, at, err := Cond(parsed(t, parser.Cond, "all p: in(p) != 1"), all)
	text := "{13 0 [{12 0 [{7 0 [{2 0 [{1 0 []}]} {0 1 []}]}]}]}"
	want(t, "Cond", []any{e, at, err}, []any{text, 0, api.OK})
	tree, err := CondTree(e)
	s, _ := printer.Cond(tree)
	want(t, "CondTree", []any{s, err}, []any{"all p0: in(p0) != 1", api.OK})
	nots := strings.Repeat("not ", 22) + "in(0) = 0"
	for _, x := range []struct {
		src  string
		uses int
		at   int
		e    api.Errno
	}{
		{"q = 0", all, 0, api.ErrUnbound}, {"all q: all q: q = 0", all, 11, api.ErrTwice}, {" in(0)", all, 1, api.ErrType}, {"out(0) = 1", api.UseIn, 0, api.ErrUse}, {"3", all, 0, api.ErrType}, {"count p (p = 1)", 0, 0, api.ErrType},
		{"all p: p = p and (some q: q = p) and q = 0", all, 37, api.ErrUnbound}, {"(all p: p = 0) and all p: p = 1", all, 0, api.OK}, {"hears(0, 1) = 0", all, 0, api.ErrType}, {"0 = hears(0, 1)", all, 0, api.ErrType},
		{"1 = 1 and 2", all, 0, api.ErrType}, {"not 1", all, 0, api.ErrType}, {"all p: p", all, 0, api.ErrType}, {"1 + (1 = 1) = 2", all, 0, api.ErrType}, {"1 = 1 or in((2 = 2)) = 0", all, 9, api.ErrType}, {"in(out(0)) = 0", api.UseIn, 3, api.ErrUse}, {"in(hears(0, 1)) = 0", api.UseIn, 0, api.ErrType},
		{nots[4:], all, 0, api.OK}, {nots, all, 0, api.ErrDeep}, {"x and y = 0", all, 0, api.ErrType}, {strings.Repeat("0 = 0 and ", 31) + "0 = 0", 0, 0, api.ErrDeep}, {strings.Repeat("0 = 0 and ", 32) + "0 = 0", 0, 0, api.ErrMany}, {"hears(0, 1)", api.UseIn | api.UseOut, 0, api.ErrUse},
	} {
		e, at, err := Cond(parsed(t, parser.Cond, x.src), x.uses)
		want(t, x.src, []any{at, err}, []any{x.at, x.e})
		if err == api.OK {
			want(t, x.src, CheckCond(e, x.uses), api.OK)
		}
	}
	_, at, err = Cond(api.Syntax{At: 9}, all)
	want(t, "Cond", []any{at, err}, []any{0, api.ErrForm})
}

func TestScheme(t *testing.T) {
	names := []string{"a", "b", "a"}
	s, at, e := Scheme(parsed(t, parser.Scheme, "crash(1) or b"), names)
	want(t, "Scheme", []any{s, at, e}, []any{"{8 0 {0 0 []} [{1 1 {0 0 []} []} {0 1 {0 0 []} []}]}", 0, api.OK})
	for _, x := range []struct {
		src string
		at  int
		e   api.Errno
	}{
		{"crash(9)", 6, api.ErrRange}, {"c", 0, api.ErrName}, {"a and omit(5) then 6 partition(6)", 0, api.OK}, {"partition(7)", 10, api.ErrRange}, {"b or a then 7 c", 5, api.ErrRange}, {"a or graphs(in(0) = 0)", 12, api.ErrUse}, {"graphs(1)", 7, api.ErrType},
		{strings.Repeat("a then 1 ", 24) + "a", 0, api.ErrDeep}, {strings.Repeat("a then 1 ", 23) + "a", 0, api.OK}, {strings.Repeat("a or ", 64) + "a", 0, api.ErrMany}, {"snapshot or graphs(hears(0, 1)) or send(0) or receive(6)", 54, api.ErrRange},
	} {
		s, at, e := Scheme(parsed(t, parser.Scheme, x.src), names)
		want(t, x.src, []any{at, e}, []any{x.at, x.e})
		if e == api.OK {
			want(t, x.src, CheckScheme(s, 2), api.OK)
		}
	}
	_, at, e = Scheme(api.Syntax{At: 9}, nil)
	want(t, "Scheme", []any{at, e}, []any{0, api.ErrForm})
	s, _, _ = Scheme(parsed(t, parser.Scheme, "(b or crash(2)) then 3 graphs(all q: hears(q, 0)) and snapshot"), names)
	tree, e := SchemeTree(s, []string{"x", "y"})
	text, _ := printer.Scheme(tree)
	want(t, "SchemeTree", []any{text, e}, []any{"(y or crash(2)) then 3 graphs(all p0: hears(p0, 0)) and snapshot", api.OK})
	for _, x := range []struct {
		names []string
		e     api.Errno
	}{{[]string{"x"}, api.ErrName}, {[]string{"x", "in"}, api.ErrName}, {[]string{"x", "x", ""}, api.ErrTwice}, {[]string{"", "x", "x"}, api.ErrName}} {
		_, e := SchemeTree(s, x.names)
		want(t, "SchemeTree", e, x.e)
	}
}

func TestFormula(t *testing.T) {
	f, at, e := Formula(parsed(t, parser.Formula, "K(1, C(everyone, input(0, 1)))"), 2)
	want(t, "Formula", []any{f, at, e}, []any{"{10 1 0 0 0 [{13 0 0 0 3 [{1 0 0 1 0 []}]}]}", 0, api.OK})
	for _, x := range []struct {
		src string
		at  int
		e   api.Errno
	}{
		{"at(7)", 3, api.ErrRange}, {"at(6)", 0, api.OK}, {"E({0, 0}, true)", 6, api.ErrTwice}, {"E({0, 2, 0}, at(9))", 6, api.ErrRange}, {"input(2, 9)", 6, api.ErrRange}, {"input(1, 8)", 9, api.ErrRange}, {"given(8)", 6, api.ErrRange}, {"heard(0, 2)", 9, api.ErrRange},
		{"faulty(2)", 7, api.ErrRange}, {"decided(0, 8)", 11, api.ErrRange}, {"true and K(2, at(9))", 11, api.ErrRange}, {"D({}, true) until next(always(eventually(not true or true)))", 0, api.OK}, {strings.Repeat("not ", 24) + "true", 0, api.ErrDeep}, {strings.Repeat("true or ", 64) + "true", 0, api.ErrMany},
	} {
		f, at, e := Formula(parsed(t, parser.Formula, x.src), 2)
		want(t, x.src, []any{at, e}, []any{x.at, x.e})
		if e != api.OK {
			continue
		}
		tree, e := FormulaTree(f, 2)
		text, _ := printer.Formula(tree)
		want(t, "FormulaTree", []any{text, e}, []any{x.src, api.OK})
	}
	for _, n := range []int{0, 6} {
		_, at, e = Formula(api.Syntax{}, n)
		want(t, "Formula", []any{at, e}, []any{0, api.ErrRange})
		want(t, "CheckFormula", CheckFormula(api.Formula{Op: 99}, n), api.ErrRange)
	}
	_, _, e = Formula(api.Syntax{}, 1)
	want(t, "Formula", e, api.ErrForm)
}

const source = `processes 3;
task c inputs 2 outputs 2 where some p0: in(p0) != 0 allow all p0: all p1: out(p0) = out(p1) calm out(0) < 1;
task d inputs 8 outputs 1 allow 0 = 0;
adversary a = graphs(hears(0, 1));
adversary b = a or crash(1) then 2 snapshot;
formula f = K(0, given(1)) until E({0, 2}, true);
problem p = c under b rounds 6;
`

func TestProgram(t *testing.T) {
	p, at, e := Program(parsed(t, parser.Parse, source))
	want(t, "Program", []any{at, e, Check(p)}, []any{0, api.OK, api.OK})
	tree, e := Source(p)
	text, _ := printer.Format(tree)
	want(t, "Source", []any{text, e}, []any{source, api.OK})
	want(t, "problem", p.Problems[0], api.ProblemDecl{Name: "p", Task: 0, Adversary: 1, Rounds: 6})
	for _, x := range []struct {
		src string
		at  int
		e   api.Errno
	}{
		{" processes 0; adversary a = b;", 1, api.ErrRange}, {"processes 6;", 0, api.ErrRange}, {"processes 1; adversary a = snapshot; formula a = at(9);", 37, api.ErrTwice}, {"processes 1; task a inputs 0 outputs 0 allow 1;", 13, api.ErrRange}, {"processes 1; task a inputs 9 outputs 9 allow 1;", 13, api.ErrRange},
		{"processes 1; task a inputs 8 outputs 9 allow 1;", 37, api.ErrRange}, {"processes 1; task a inputs 8 outputs 8 where out(0) = 0 allow 1;", 45, api.ErrUse}, {"processes 1; task a inputs 8 outputs 8 allow hears(0, 0);", 45, api.ErrUse}, {"processes 1; task a inputs 8 outputs 8 allow 0 = 0 calm 1;", 56, api.ErrType},
		{"processes 1; adversary a = a;", 27, api.ErrName}, {"processes 1; adversary a = snapshot; adversary b = a or c;", 56, api.ErrName}, {"processes 1; formula f = K(1, true);", 27, api.ErrRange}, {"processes 1; problem p = a under b rounds 1;", 25, api.ErrName},
		{"processes 1; adversary b = snapshot; problem p = b under b rounds 1;", 49, api.ErrName}, {"processes 1; task a inputs 1 outputs 1 allow 0 = 0; problem p = a under a rounds 9;", 72, api.ErrName}, {"processes 1; task a inputs 1 outputs 1 allow 0 = 0; adversary b = snapshot; problem p = a under b rounds 7;", 76, api.ErrRange},
		{"processes 1;" + strings.Repeat("adversary a=x;", 1025), 0, api.ErrMany}, {"processes 1;" + strings.Repeat("adversary a=snapshot;", 1024), 33, api.ErrTwice},
	} {
		_, at, e := Program(parsed(t, parser.Parse, x.src))
		want(t, x.src[:min(len(x.src), 90)], []any{at, e}, []any{x.at, x.e})
	}
	_, at, e = Program(api.Syntax{At: 4, Kind: api.NodeProgram, Kids: []api.Syntax{{}}})
	want(t, "Program", []any{at, e}, []any{0, api.ErrForm})
}

func TestCheck(t *testing.T) {
	truth := api.Expr{Op: api.ExprEqual, Args: []api.Expr{{}, {}}}
	in := api.Expr{Op: api.ExprIn, Args: []api.Expr{{}}}
	usesIn := api.Expr{Op: api.ExprEqual, Args: []api.Expr{in, in}}
	negative := api.Expr{Op: api.ExprEqual, Args: []api.Expr{{}, {Num: -1}}}
	for i, x := range []struct {
		e    api.Expr
		uses int
		err  api.Errno
	}{{api.Expr{Op: 99}, 0, api.ErrArg}, {in, 0, api.ErrType}, {usesIn, 6, api.ErrUse}, {usesIn, 1, api.OK}, {negative, 0, api.ErrRange}, {truth, 0, api.OK}, {api.Expr{Op: api.ExprVar}, 7, api.ErrUnbound}} {
		want(t, fmt.Sprint("CheckCond ", i), CheckCond(x.e, x.uses), x.err)
		if x.err != api.ErrUse {
			_, err := CondTree(x.e)
			want(t, "CondTree", err, x.err)
		}
	}
	ref := api.Scheme{}
	for i, x := range []struct {
		s api.Scheme
		e api.Errno
	}{
		{api.Scheme{Op: 11}, api.ErrArg}, {api.Scheme{Op: -1, Num: 9}, api.ErrArg}, {api.Scheme{Op: api.SchemeOr}, api.ErrShape}, {api.Scheme{Args: []api.Scheme{ref}}, api.ErrShape}, {api.Scheme{Num: 2}, api.ErrName}, {api.Scheme{Num: -1}, api.ErrName}, {ref, api.OK},
		{api.Scheme{Op: api.SchemeCrash, Num: 6}, api.ErrRange}, {api.Scheme{Op: api.SchemePartition, Num: 7}, api.ErrRange}, {api.Scheme{Op: api.SchemeThen, Num: -1, Args: []api.Scheme{ref, ref}}, api.ErrRange}, {api.Scheme{Op: api.SchemeOr, Num: 1, Args: []api.Scheme{ref, {Op: 99}}}, api.ErrForm},
		{api.Scheme{Op: api.SchemeSnapshot, Num: 1}, api.ErrForm}, {api.Scheme{Op: api.SchemeGraphs}, api.ErrType}, {api.Scheme{Op: api.SchemeGraphs, Cond: usesIn}, api.ErrUse}, {api.Scheme{Cond: truth}, api.ErrForm}, {api.Scheme{Op: api.SchemeAnd, Args: []api.Scheme{ref, {Op: 99}}}, api.ErrArg},
		{api.Scheme{Args: make([]api.Scheme, 128)}, api.ErrMany},
	} {
		want(t, fmt.Sprint("CheckScheme ", i), CheckScheme(x.s, 2), x.e)
	}
	atom := api.Formula{}
	for i, x := range []struct {
		f api.Formula
		e api.Errno
	}{
		{api.Formula{Op: 18}, api.ErrArg}, {api.Formula{Op: api.FormulaNot}, api.ErrShape}, {api.Formula{Op: api.FormulaUntil, Args: []api.Formula{atom}}, api.ErrShape}, {api.Formula{Op: api.FormulaIn, Proc: 2, Other: 1}, api.ErrRange}, {api.Formula{Op: api.FormulaIn, Other: 1}, api.ErrForm}, {api.Formula{Group: 1}, api.ErrForm},
		{api.Formula{Op: api.FormulaCommon, Group: 4, Args: []api.Formula{atom}}, api.ErrRange}, {api.Formula{Op: api.FormulaCommon, Group: 3, Args: []api.Formula{{Op: 99}}}, api.ErrArg}, {api.Formula{Op: api.FormulaKnows, Value: 1, Args: []api.Formula{atom}}, api.ErrForm}, {api.Formula{Op: api.FormulaAt, Value: 7}, api.ErrRange}, {api.Formula{Op: api.FormulaGiven, Value: -1}, api.ErrRange},
	} {
		want(t, fmt.Sprint("CheckFormula ", i), CheckFormula(x.f, 2), x.e)
		_, e := FormulaTree(x.f, 2)
		want(t, "FormulaTree", e, x.e)
	}
}

func TestCheckProgram(t *testing.T) {
	truth := api.Expr{Op: api.ExprEqual, Args: []api.Expr{{}, {}}}
	task := api.TaskDecl{Name: "t", Ins: 1, Outs: 1, Allow: truth}
	for i, x := range []struct {
		change func(*api.Program)
		e      api.Errno
	}{
		{func(p *api.Program) {}, api.OK}, {func(p *api.Program) { p.N = 6 }, api.ErrRange}, {func(p *api.Program) { p.Formulas = make([]api.FormulaDecl, 1022) }, api.ErrMany}, {func(p *api.Program) { p.Tasks[0].Name = "in"; p.Tasks[0].Ins = 9 }, api.ErrName},
		{func(p *api.Program) { p.Adversaries[0].Name = "t" }, api.ErrTwice}, {func(p *api.Program) { p.Tasks[0].Outs = 9 }, api.ErrRange}, {func(p *api.Program) { p.Tasks[0].Ins = 0 }, api.ErrRange}, {func(p *api.Program) { p.Tasks[0].Where.Op = 99 }, api.ErrArg}, {func(p *api.Program) { p.Tasks[0].Allow = api.Expr{} }, api.ErrType},
		{func(p *api.Program) { p.Tasks[0].Calm.Op = 99 }, api.ErrArg}, {func(p *api.Program) { p.Adversaries[0].Scheme = api.Scheme{} }, api.ErrName}, {func(p *api.Program) { p.Formulas = []api.FormulaDecl{{Name: "f", Formula: api.Formula{Op: 99}}} }, api.ErrArg},
		{func(p *api.Program) { p.Problems[0].Task = 1 }, api.ErrNone}, {func(p *api.Program) { p.Problems[0].Adversary = -1 }, api.ErrNone}, {func(p *api.Program) { p.Problems[0].Rounds = 7 }, api.ErrRange},
	} {
		p := api.Program{N: 1, Tasks: []api.TaskDecl{task}, Adversaries: []api.AdversaryDecl{{Name: "a", Scheme: api.Scheme{Op: api.SchemeSnapshot}}}, Problems: []api.ProblemDecl{{Name: "p"}}}
		x.change(&p)
		want(t, fmt.Sprint("Check ", i), Check(p), x.e)
		_, e := Source(p)
		want(t, fmt.Sprint("Source ", i), e, x.e)
	}
}
