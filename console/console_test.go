package console

import (
	"fmt"
	"slices"
	"strings"
	"testing"

	"roundtable/api"
	"roundtable/resolve"
)

func want(t *testing.T, what string, got, wanted any) {
	t.Helper()
	if fmt.Sprint(got) != fmt.Sprint(wanted) {
		t.Errorf("%s: got %v, want %v", what, got, wanted)
	}
}

const source = "processes 2; task c inputs 2 outputs 2 allow some p: all q: out(q) = in(p); adversary a = graphs(hears(1, 0)); problem p = c under a rounds 1;"

// session checks the answers of lines that are executed one after another.
func check(t *testing.T, pairs ...string) State {
	t.Helper()
	s := Begin()
	var lines, answers []string
	for i := 0; i < len(pairs); i += 2 {
		var answer string
		s, answer = Do(s, pairs[i])
		want(t, pairs[i], answer, pairs[i+1])
		lines, answers = append(lines, pairs[i]), append(answers, answer)
	}
	want(t, "Run", Run(lines), answers)
	return s
}

func TestSession(t *testing.T) {
	s := check(t,
		"load "+source, "ok",
		"names", "c a p",
		"decide", "error 21",
		"use p", "executions 8 views 14 relevant 10",
		"rule", "error 21",
		"holds K(1, given(0))", "10 of 16",
		"holds decided(0, 0)", "0 of 16",
		"decide", "yes",
		"optimal", "optimal worst 1 total 8",
		"run 0", "decides 0 0 at 0 1 bytes 6 verdict none",
		"run 007", "decides 1 1 at 0 1 bytes 12 verdict none",
		"run 8", "error 6",
		"run x", "error 1",
		"run -1", "error 1",
		"run 1048577", "error 1",
		"run 99999999999999999999", "error 1",
		"holds decided(0, 0)", "8 of 16",
		"rule", "0 -1 0 0 0 -1 0 0 1 1 1 1 1 1",
		"solutions", "1",
		"rounds", "1",
		"least", "worst 1 total 8",
		"worst", "worst 1 total 8",
		"certificate", "none",
		"complex", "vertices 10 facets 8 euler 2 components 2",
		"betti", "2 0",
		"symmetries", "1",
		"machine", "states 7 symbols 3 steps 6",
		"slowest", "round 1",
		"source", "processes 2; task c inputs 2 outputs 2 allow some p0: all p1: out(p1) = in(p0); adversary a = graphs(hears(1, 0)); problem p = c under a rounds 1;",
		"declare adversary b = graphs(hears(0, 1) or hears(1, 0)); problem q = c under b rounds 1;", "ok",
		"rule", "0 -1 0 0 0 -1 0 0 1 1 1 1 1 1",
		"names", "c a b p q",
		"use q", "executions 12 views 16 relevant 12",
		"rule", "error 21",
		"decide", "no",
		"run 0", "error 21",
		"certificate", "walk 0 2/1 1/0 2/0 0/1 3/0 5/1 4/0 5/0 4/0 10/1",
		"accept walk 0 3/0 5/1 4/0 10/1", "accepted",
		"accept walk 0 3/0 5/1 4/0", "error 18",
		"accept walk 0 3/0 5/1 4/0 ", "error 4",
		"accept proof ()", "accepted", "accept proof (1)", "error 18",
		"rounds", "error 6",
		"optimal", "error 6",
		"least", "error 6",
		"solutions", "0",
		"betti", "1 1",
		"symmetries", "2",
		"holds K(2, true)", "error 2 at 2",
		"holds K(", "error 4 at 2",
		"use r", "error 6",
		"names", "c a b p q",
	)
	want(t, "state", []any{s.Loaded, s.Problem, len(s.Rule.Out), resolve.Check(s.Program)}, []any{true, 1, 0, api.OK})
}

func TestErrors(t *testing.T) {
	check(t,
		"", "error 4", "Help", "error 4", " help", "error 4", "help ", "error 1", "help x", "error 1", "load", "error 1", "load ", "error 1", "names", "error 21", "use p", "error 21", "holds at(0)", "error 21", "machine", "error 21", "source x", "error 1", "names ", "error 1",
		"help", "accept betti certificate complex decide declare help holds least load machine names optimal rounds rule run slowest solutions source symmetries use worst",
		"load processes", "error 4 at 9", "load processes 0;", "error 2 at 0", "load processes 2;", "ok", "names", "none", "source", "processes 2;", "declare problem p = c under a rounds 1;", "error 8 at 25", "declare formula none = true;", "ok", "names", "none", "declare x", "error 4 at 34",
		"declare task t inputs 2 outputs 2 allow in(0) < 0; adversary a = crash(3); problem p = t under a rounds 1; problem q = u under a rounds 1;", "error 8 at 145",
		"declare task t inputs 2 outputs 2 allow in(0) < 0; adversary a = crash(2); problem p = t under a rounds 1;", "ok", "use p", "error 16",
		"declare task u inputs 2 outputs 2 allow out(0) = out(1); adversary b = crash(3); problem q = u under a rounds 1;", "ok", "use q", "error 2",
		"load "+strings.Replace(source, "rounds 1", "rounds 6", 1), "ok", "use p", "executions 256 views 748 relevant 382",
	)
	s, answer := Do(Begin(), strings.Repeat("x", api.MaxText+1))
	want(t, "long line", []any{answer, s}, []any{"error 13", Begin()})
	s, answer = Do(Begin(), "load processes 1; #"+strings.Repeat("x", api.MaxText-20))
	want(t, "long line", []any{answer, s.Loaded}, []any{"ok", true})
	l := Commands()
	want(t, "Commands", []any{len(l), slices.IsSorted(l)}, []any{22, true})
	want(t, "Run", Run(nil), []string{})
}

func TestOrder(t *testing.T) {
	good := check(t, "load "+source, "ok", "use p", "executions 8 views 14 relevant 10", "optimal", "optimal worst 1 total 8")
	for i, x := range []struct {
		change func(s *State)
		begin  bool
		index  int
		values int
	}{
		{func(s *State) {}, false, 0, 14}, {func(s *State) { s.Loaded = false }, true, -1, 0}, {func(s *State) { s.Program.N = 9 }, true, -1, 0}, {func(s *State) { s.Problem = 1 }, false, -1, 0}, {func(s *State) { s.Problem = -7 }, false, -1, 0}, {func(s *State) { s.Rule.Out = []int{1} }, false, 0, 0},
		{func(s *State) { s.Rule.Out = slices.Repeat([]int{2}, 14) }, false, 0, 0}, {func(s *State) { s.Program.Problems[0].Rounds = 0 }, false, 0, 0}, {func(s *State) {
			s.Program.Tasks[0].Allow = api.Expr{Op: api.ExprLess, Args: []api.Expr{{}, {}}}
		}, false, -1, 0},
	} {
		s := good
		s.Program = cloneProgram(good.Program)
		x.change(&s)
		after, answer := Do(s, "?")
		want(t, fmt.Sprint("state ", i), []any{answer, after.Loaded, after.Problem, len(after.Rule.Out)}, []any{"error 4", !x.begin, x.index, x.values})
		if x.begin {
			want(t, "Begin", after, Begin())
		}
	}
	after, _ := Do(good, "names")
	after.Rule.Out[0] = 9
	after.Program.Tasks[0].Allow.Args[0].Op = 99
	after.Program.Problems[0].Task = 99
	_, answer := Do(good, "run 0")
	want(t, "memory", answer, "decides 0 0 at 0 1 bytes 6 verdict none")
}

func TestConsequences(t *testing.T) {
	for _, adversary := range []string{"crash(1)", "send(1)", "snapshot", "partition(1) then 1 crash(0)", "graphs(hears(0, 1))"} {
		for _, allow := range []string{"all p: all q: out(p) = out(q) and some r: out(p) = in(r)", "out(0) + out(1) = 1", "out(0) <= in(1)"} {
			for rounds := range 3 {
				line := fmt.Sprintf("load processes 2; task t inputs 2 outputs 2 allow %s; adversary a = %s; problem p = t under a rounds %d;", allow, adversary, rounds)
				l := Run([]string{line, "use p", "decide", "certificate", "slowest", "source"})
				want(t, line, []any{l[0], strings.HasPrefix(l[1], "executions")}, []any{"ok", true})
				want(t, line, l[3] == "none", l[2] == "yes")
				want(t, line, strings.HasPrefix(l[4], "round"), l[2] == "yes")
				again := Run([]string{line, "use p", "accept " + l[3], "load " + l[5], "source"})
				want(t, line, again[4], l[5])
				if l[2] == "no" {
					want(t, line, again[2], "accepted")
				}
			}
		}
	}
}
