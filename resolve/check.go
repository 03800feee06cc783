package resolve

import (
	"roundtable/api"
	"roundtable/expr"
	"roundtable/lexer"
)

// Check returns OK for well-formed programs.
func Check(p api.Program) api.Errno {
	if p.N < 1 || p.N > api.MaxProcs {
		return api.ErrRange
	}
	if len(p.Tasks)+len(p.Adversaries)+len(p.Formulas)+len(p.Problems) > api.MaxList {
		return api.ErrMany
	}
	names := map[string]bool{}
	err := api.OK
	// Further declarations are not looked at behind the first error.
	declaration := func(name string, rest func() api.Errno) {
		switch {
		case err != api.OK:
			return
		case lexer.Name(name) != api.OK:
			err = api.ErrName
		case names[name]:
			err = api.ErrTwice
		default:
			err = rest()
		}
		names[name] = true
	}
	for _, d := range p.Tasks {
		declaration(d.Name, func() api.Errno { return checkTask(d) })
	}
	for i, d := range p.Adversaries {
		declaration(d.Name, func() api.Errno { return CheckScheme(d.Scheme, i) })
	}
	for _, d := range p.Formulas {
		declaration(d.Name, func() api.Errno { return CheckFormula(d.Formula, p.N) })
	}
	for _, d := range p.Problems {
		declaration(d.Name, func() api.Errno { return checkProblem(p, d) })
	}
	return err
}

// CheckCond returns OK for well-formed conditions.
func CheckCond(e api.Expr, uses int) api.Errno {
	if err := expr.Check(e, 0); err != api.OK {
		return err
	}
	if kind, _ := expr.Kind(e); kind != api.KindBool {
		return api.ErrType
	}
	if expr.Uses(e)&^uses != 0 {
		return api.ErrUse
	}
	return checkConstants(e)
}

// CheckScheme returns OK for well-formed schemes behind some adversaries.
func CheckScheme(s api.Scheme, adversaries int) api.Errno {
	if e := bounds(measure(s, schemeArgs)); e != api.OK {
		return e
	}
	return checkSchemeNodes(s, adversaries)
}

// CheckFormula returns OK for well-formed formulas for n processes.
func CheckFormula(f api.Formula, n int) api.Errno {
	if n < 1 || n > api.MaxProcs {
		return api.ErrRange
	}
	if e := bounds(measure(f, formulaArgs)); e != api.OK {
		return e
	}
	return checkFormulaNodes(f, n)
}

func checkTask(d api.TaskDecl) api.Errno {
	if d.Ins < 1 || d.Ins > api.MaxValues || d.Outs < 1 || d.Outs > api.MaxValues {
		return api.ErrRange
	}
	if !absent(d.Where) {
		if e := CheckCond(d.Where, api.UseIn); e != api.OK {
			return e
		}
	}
	if e := CheckCond(d.Allow, api.UseIn|api.UseOut); e != api.OK || absent(d.Calm) {
		return e
	}
	return CheckCond(d.Calm, api.UseIn|api.UseOut)
}

func checkProblem(p api.Program, d api.ProblemDecl) api.Errno {
	switch {
	case d.Task < 0 || d.Task >= len(p.Tasks), d.Adversary < 0 || d.Adversary >= len(p.Adversaries):
		return api.ErrNone
	case d.Rounds < 0 || d.Rounds > api.MaxRounds:
		return api.ErrRange
	}
	return api.OK
}

// absent reports whether an expression is the zero expression.
func absent(e api.Expr) bool { return expr.Same(e, api.Expr{}) }

func checkConstants(e api.Expr) api.Errno {
	if e.Op == api.ExprConst && e.Num < 0 {
		return api.ErrRange
	}
	for _, arg := range e.Args {
		if err := checkConstants(arg); err != api.OK {
			return err
		}
	}
	return api.OK
}

func checkSchemeNodes(s api.Scheme, adversaries int) api.Errno {
	if s.Op < api.SchemeRef || s.Op > api.SchemeThen {
		return api.ErrArg
	}
	args := 0
	if s.Op >= api.SchemeOr {
		args = 2
	}
	if len(s.Args) != args {
		return api.ErrShape
	}
	outside := s.Num < 0 || s.Num > schemeMost(s.Op)
	switch {
	case s.Op == api.SchemeRef:
		if s.Num < 0 || s.Num >= adversaries {
			return api.ErrName
		}
	case outside && schemeMost(s.Op) > 0:
		return api.ErrRange
	case outside:
		return api.ErrForm
	}
	if s.Op == api.SchemeGraphs {
		return CheckCond(s.Cond, api.UseHears)
	}
	if !absent(s.Cond) {
		return api.ErrForm
	}
	for _, arg := range s.Args {
		if e := checkSchemeNodes(arg, adversaries); e != api.OK {
			return e
		}
	}
	return api.OK
}

func checkFormulaNodes(f api.Formula, n int) api.Errno {
	args := 1
	switch {
	case f.Op < api.FormulaTrue || f.Op > api.FormulaUntil:
		return api.ErrArg
	case f.Op <= api.FormulaAt:
		args = 0
	case f.Op == api.FormulaAnd || f.Op == api.FormulaOr || f.Op == api.FormulaUntil:
		args = 2
	}
	if len(f.Args) != args {
		return api.ErrShape
	}
	unused := f
	for _, field := range formulaFields(&unused) {
		if *field < 0 || *field >= fieldValues(f.Op, field, &unused, n) {
			return api.ErrRange
		}
		*field = 0
	}
	if grouped(f.Op) {
		if f.Group < 0 || f.Group >= 1<<n {
			return api.ErrRange
		}
		unused.Group = 0
	}
	if unused.Proc != 0 || unused.Other != 0 || unused.Value != 0 || unused.Group != 0 {
		return api.ErrForm
	}
	for _, arg := range f.Args {
		if e := checkFormulaNodes(arg, n); e != api.OK {
			return e
		}
	}
	return api.OK
}

// grouped reports whether an operation of formulas uses a group.
func grouped(op int) bool {
	return op == api.FormulaEveryone || op == api.FormulaDistributed || op == api.FormulaCommon
}
