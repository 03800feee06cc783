package console

import (
	"slices"
	"strconv"
	"strings"

	"roundtable/api"
	"roundtable/average"
	"roundtable/certificate"
	"roundtable/complex"
	"roundtable/decide"
	"roundtable/execution"
	"roundtable/formula"
	"roundtable/homology"
	"roundtable/machine"
	"roundtable/monitor"
	"roundtable/optimal"
	"roundtable/protocol"
	"roundtable/search"
	"roundtable/simulate"
	"roundtable/symmetry"
	"roundtable/temporal"
)

func (x *session) help(string) (string, failure) { return answer(Commands()), failure{} }

func (x *session) load(source string) (string, failure) {
	p, f := read(source)
	if f.e != api.OK {
		return "", f
	}
	x.State = State{Program: p, Loaded: true, Problem: -1}
	return "ok", failure{}
}

func (x *session) declare(declaration string) (string, failure) {
	text, e := x.text()
	if e != api.OK {
		return "", failed(e)
	}
	p, f := read(text + declaration)
	if f.e != api.OK {
		return "", f
	}
	x.Program = p
	return "ok", failure{}
}

func (x *session) source(string) (string, failure) {
	text, e := x.text()
	return strings.ReplaceAll(strings.TrimSuffix(text, "\n"), "\n", " "), failed(e)
}

func (x *session) names(string) (string, failure) {
	var l []string
	for _, d := range x.Program.Tasks {
		l = append(l, d.Name)
	}
	for _, d := range x.Program.Adversaries {
		l = append(l, d.Name)
	}
	for _, d := range x.Program.Formulas {
		l = append(l, d.Name)
	}
	for _, d := range x.Program.Problems {
		l = append(l, d.Name)
	}
	if len(l) == 0 {
		return "none", failure{}
	}
	return answer(l), failure{}
}

func (x *session) use(name string) (string, failure) {
	index := slices.IndexFunc(x.Program.Problems, func(d api.ProblemDecl) bool { return d.Name == name })
	if index < 0 {
		return "", failed(api.ErrNone)
	}
	if e := x.open(index); e != api.OK {
		return "", failed(e)
	}
	x.Problem, x.Rule = index, api.Rule{}
	relevant, e := execution.Relevant(x.system)
	return answer("executions", len(x.system.Executions), "views", len(x.system.Table.Views), "relevant", len(relevant)), failed(e)
}

func (x *session) decide(string) (string, failure) {
	verdict, r, _, e := decide.Decide(x.problem)
	x.Rule = r
	if verdict == api.VerdictYes {
		return "yes", failed(e)
	}
	return "no", failed(e)
}

func (x *session) rule(string) (string, failure) { return answer(x.Rule.Out), failure{} }

func (x *session) solutions(string) (string, failure) {
	n, e := decide.Solutions(x.problem)
	return answer(n), failed(e)
}

func (x *session) rounds(string) (string, failure) {
	n, e := decide.Rounds(x.problem)
	return answer(n), failed(e)
}

func (x *session) optimal(string) (string, failure) {
	r, _, e := optimal.Optimal(x.problem)
	word := "not"
	if r.Optimal {
		word = "optimal"
	}
	text, f := x.report(r, e)
	return answer(word, text), f
}

func (x *session) least(string) (string, failure) { return x.report(average.Least(x.problem)) }

func (x *session) worst(string) (string, failure) { return x.report(average.Worst(x.problem)) }

// report keeps the rule of a report.
func (x *session) report(r api.Report, e api.Errno) (string, failure) {
	x.Rule = r.Rule
	return answer("worst", r.Worst, "total", r.Total), failed(e)
}

func (x *session) certificate(string) (string, failure) {
	c, ok, e := certificate.Find(x.system)
	if e != api.OK || !ok {
		return "none", failed(e)
	}
	text, e := certificate.Format(c)
	return text, failed(e)
}

func (x *session) accept(text string) (string, failure) {
	c, e := certificate.Parse(text)
	if e != api.OK {
		return "", failed(e)
	}
	return "accepted", failed(certificate.Verify(x.system, c))
}

func (x *session) holds(text string) (string, failure) {
	f, at, e := formula.Parse(text, x.Program.N)
	if e != api.OK {
		return "", failedAt(at, e)
	}
	set, e := temporal.Eval(x.system, x.Rule, f)
	holds := 0
	for _, is := range set {
		if is {
			holds++
		}
	}
	return answer(holds, "of", len(set)), failed(e)
}

func (x *session) complex(string) (string, failure) {
	c, e := protocol.Complex(x.system)
	if e != api.OK {
		return "", failed(e)
	}
	vertices, e := complex.Vertices(c)
	if e != api.OK {
		return "", failed(e)
	}
	euler, e := complex.Euler(c)
	if e != api.OK {
		return "", failed(e)
	}
	labels, e := complex.Components(c)
	components := 0
	for _, label := range labels {
		components = max(components, label+1)
	}
	return answer("vertices", len(vertices), "facets", len(c.Facets), "euler", euler, "components", components), failed(e)
}

func (x *session) betti(string) (string, failure) {
	c, e := protocol.Complex(x.system)
	if e != api.OK {
		return "", failed(e)
	}
	numbers, e := homology.Betti(c)
	if len(numbers) == 0 {
		return "none", failed(e)
	}
	return answer(numbers), failed(e)
}

func (x *session) symmetries(string) (string, failure) {
	l, e := symmetry.Symmetries(x.problem)
	return answer(len(l)), failed(e)
}

func (x *session) machine(string) (string, failure) {
	m, e := machine.Synthesize(x.system, x.Rule)
	if e != api.OK {
		return "", failed(e)
	}
	states, symbols, steps, e := machine.Size(m)
	return answer("states", states, "symbols", symbols, "steps", steps), failed(e)
}

func (x *session) run(text string) (string, failure) {
	index, ok := number(text)
	if !ok {
		return "", failed(api.ErrArg)
	}
	if index >= len(x.system.Executions) {
		return "", failed(api.ErrNone)
	}
	m, e := machine.Synthesize(x.system, x.Rule)
	if e != api.OK {
		return "", failed(e)
	}
	played := x.system.Executions[index]
	t, e := simulate.Run(m, x.problem.Task.Cases[played.Case].In, played.Word)
	if e != api.OK {
		return "", failed(e)
	}
	bytes, e := simulate.Bytes(t)
	if e != api.OK {
		return "", failed(e)
	}
	kind, e := monitor.Verdict(x.problem, m, t)
	if e != api.OK {
		return "", failed(e)
	}
	word, e := monitor.Word(kind)
	return answer("decides", t.Decisions, "at", t.Times, "bytes", bytes, "verdict", word), failed(e)
}

func (x *session) slowest(string) (string, failure) {
	m, e := machine.Synthesize(x.system, x.Rule)
	if e != api.OK {
		return "", failed(e)
	}
	_, time, e := search.Worst(x.problem, m)
	return answer("round", time), failed(e)
}

// number returns the number of a text of digits; false if there are none, or if it is too great.
func number(text string) (int, bool) {
	digits := strings.TrimLeft(text, "0")
	if strings.Trim(text, "0123456789") != "" || text == "" || len(digits) > 7 {
		return 0, false
	}
	n, _ := strconv.Atoi(text)
	return n, n <= api.MaxNumber
}
