package certificate

import (
	"fmt"
	"strings"
	"testing"

	"roundtable/api"
	"roundtable/decide"
	"roundtable/execution"
	"roundtable/failure"
	"roundtable/library"
	"roundtable/rule"
	"roundtable/task"
)

func want(t *testing.T, what string, got, wanted any) {
	t.Helper()
	if fmt.Sprint(got) != fmt.Sprint(wanted) {
		t.Errorf("%s: got %v, want %v", what, got, wanted)
	}
}

func links(pairs ...int) []api.Link {
	var l []api.Link
	for i := 0; i < len(pairs); i += 2 {
		l = append(l, api.Link{Execution: pairs[i], Proc: pairs[i+1]})
	}
	return l
}

func TestTexts(t *testing.T) {
	for _, x := range []struct {
		c    api.Certificate
		text string
		size int
	}{
		{api.Certificate{Kind: api.CertificateWalk, Walk: links(0, -1, 1, 0, 2, 1)}, "walk 0 1/0 2/1", 3},
		{api.Certificate{Kind: api.CertificateRainbow, Values: []int{0, 1}, Levels: [][][]int{{{2}}, {{2, 7}, {7, 8}}}}, "rainbow 0 1 | 2 | 2,7 7,8", 3},
		{api.Certificate{Kind: api.CertificateRainbow, Values: []int{3}, Levels: [][][]int{nil}}, "rainbow 3 |", 0},
		{api.Certificate{Kind: api.CertificateProof, Proof: [][]int{{1, -2}, {}}}, "proof (1,-2) ()", 2},
	} {
		s, e := Format(x.c)
		n, _ := Size(x.c)
		want(t, "Format", []any{s, n, e}, []any{x.text, x.size, api.OK})
		c, e := Parse(x.text)
		want(t, "Parse", []any{fmt.Sprintf("%+v", c), e}, []any{fmt.Sprintf("%+v", x.c), api.OK})
	}
	for _, s := range []string{"", "walk", "walk ", "walk 0 1", "walk 0/1", "walk 0 1/0 ", "walk  0", "walk 00", "walk +0", "walk 0 1/5", "walk 0 1/-1", "walk 1048577", "walk 99999999999999999999", "proof", "proof (01)", "proof (0)", "proof 1", "proof (1", "proof (1,)", "proof ((1))", "proof (4097)", "Walk 0",
		"rainbow", "rainbow 0", "rainbow 0 |  |", "rainbow 0 | |", "rainbow | 0", "rainbow 8 |", "rainbow 0 | 1,2,3,4,5,6", "rainbow 0 | a", "rainbow 0 1 | 2 | 2,7 | 3", "rainbow 0 1 2 3 4 5 | | | | | |", "walk 0\n"} {
		c, e := Parse(s)
		want(t, "Parse "+s, []any{c, e}, []any{api.Certificate{}, api.ErrSyntax})
	}
	_, e := Parse("walk" + strings.Repeat(" ", api.MaxText))
	want(t, "Parse", e, api.ErrLong)
	long := api.Certificate{Kind: api.CertificateProof}
	for range 22000 {
		long.Proof = append(long.Proof, []int{})
	}
	_, e = Format(long)
	want(t, "Format", e, api.ErrLong)
}

func TestCheck(t *testing.T) {
	walk := links(0, -1)
	for i, x := range []struct {
		c api.Certificate
		e api.Errno
	}{
		{api.Certificate{Walk: walk}, api.ErrArg}, {api.Certificate{Kind: 4}, api.ErrArg}, {api.Certificate{Kind: 1, Values: []int{9}}, api.ErrForm}, {api.Certificate{Kind: 1, Walk: walk, Levels: make([][][]int, 1)}, api.ErrForm}, {api.Certificate{Kind: 1, Walk: walk, Proof: make([][]int, 1)}, api.ErrForm}, {api.Certificate{Kind: 1}, api.ErrEmpty},
		{api.Certificate{Kind: 1, Walk: make([]api.Link, 4097)}, api.ErrMany}, {api.Certificate{Kind: 1, Walk: links(0, 0)}, api.ErrRange}, {api.Certificate{Kind: 1, Walk: links(-1, -1)}, api.ErrRange}, {api.Certificate{Kind: 1, Walk: links(0, -1, 0, -1)}, api.ErrRange}, {api.Certificate{Kind: 1, Walk: links(0, -1, 1<<20, 4)}, api.OK}, {api.Certificate{Kind: 1, Walk: links(0, -1, 1<<20+1, 4)}, api.ErrRange}, {api.Certificate{Kind: 1, Walk: links(0, -1, 0, 5)}, api.ErrRange},
		{api.Certificate{Kind: 2, Walk: walk}, api.ErrForm}, {api.Certificate{Kind: 2, Proof: make([][]int, 1)}, api.ErrForm}, {api.Certificate{Kind: 2, Levels: make([][][]int, 1)}, api.ErrEmpty}, {api.Certificate{Kind: 2, Values: make([]int, 6)}, api.ErrMany}, {api.Certificate{Kind: 2, Values: []int{8}}, api.ErrRange}, {api.Certificate{Kind: 2, Values: []int{7}}, api.ErrShape},
		{api.Certificate{Kind: 2, Values: []int{7, 0}, Levels: [][][]int{{{}}, make([][]int, 4097)}}, api.ErrMany}, {api.Certificate{Kind: 2, Values: []int{7}, Levels: [][][]int{{{}}}}, api.ErrEmpty}, {api.Certificate{Kind: 2, Values: []int{7}, Levels: [][][]int{{{1, 2, 3, 4, 5, 6}}}}, api.ErrMany}, {api.Certificate{Kind: 2, Values: []int{7}, Levels: [][][]int{{{-1}}}}, api.ErrRange}, {api.Certificate{Kind: 2, Values: []int{7}, Levels: [][][]int{{{1 << 20}}}}, api.OK},
		{api.Certificate{Kind: 3, Walk: walk}, api.ErrForm}, {api.Certificate{Kind: 3, Values: []int{1}}, api.ErrForm}, {api.Certificate{Kind: 3}, api.ErrEmpty}, {api.Certificate{Kind: 3, Proof: make([][]int, 32769)}, api.ErrMany}, {api.Certificate{Kind: 3, Proof: [][]int{make([]int, 4097)}}, api.ErrMany}, {api.Certificate{Kind: 3, Proof: [][]int{{0}, make([]int, 4097)}}, api.ErrRange}, {api.Certificate{Kind: 3, Proof: [][]int{{4097}}}, api.ErrRange}, {api.Certificate{Kind: 3, Proof: [][]int{{-4096, 3}}}, api.OK},
	} {
		want(t, fmt.Sprint("Check ", i), Check(x.c), x.e)
		_, e := Size(x.c)
		want(t, "Size", e, x.e)
		_, e = Format(x.c)
		want(t, "Format", e, x.e)
	}
}

func TestFind(t *testing.T) {
	c, _ := library.Consensus(2, 2)
	c, _ = task.Restrict(c, []int{0, 1, 3})
	complete := api.Adversary{N: 2, States: [][]api.Move{{{Round: api.Round{Graph: api.Graph{N: 2, Hears: [5]int{3, 3}}}}}}}
	s, _ := execution.Build(api.Problem{Task: c, Adversary: complete})
	x, ok, e := Find(s)
	text, _ := Format(x)
	want(t, "Find", []any{text, ok, e, Verify(s, x)}, []any{"walk 0 1/0 2/1", true, api.OK, api.OK})
	i, e := Witness(s, x, api.Rule{Out: []int{0, 0, 0, 0}})
	want(t, "Witness", []any{i, e}, []any{2, api.OK})
	own := api.Rule{}
	for _, v := range s.Table.Views {
		own.Out = append(own.Out, v.Input)
	}
	i, _ = Witness(s, x, own)
	want(t, "Witness", i, 1)
	bad := s
	bad.Executions = nil
	_, _, e = Find(bad)
	want(t, "Find", e, api.ErrForm)
	want(t, "Verify", Verify(bad, api.Certificate{}), api.ErrForm)
	_, e = Witness(bad, api.Certificate{}, own)
	want(t, "Witness", e, api.ErrForm)
	_, e = Witness(s, api.Certificate{}, api.Rule{})
	want(t, "Witness", e, api.ErrArg)
	_, e = Witness(s, x, api.Rule{})
	want(t, "Witness", e, api.ErrShape)
	for j, y := range []struct {
		c api.Certificate
		e api.Errno
	}{{api.Certificate{}, api.ErrArg}, {api.Certificate{Kind: 1, Walk: links(0, -1, 2, 0)}, api.ErrProof}, {api.Certificate{Kind: 1, Walk: links(9, -1)}, api.ErrNone}, {api.Certificate{Kind: 2, Values: []int{2}, Levels: [][][]int{nil}}, api.ErrRange}, {api.Certificate{Kind: 3, Proof: [][]int{{1}}}, api.ErrProof}, {api.Certificate{Kind: 3, Proof: [][]int{{2, 1}}}, api.ErrOrder}} {
		want(t, fmt.Sprint("Verify ", j), Verify(s, y.c), y.e)
	}
}

func TestConsequences(t *testing.T) {
	consensus, _ := library.Consensus(2, 2)
	approximate, _ := library.Approximate(2, 4)
	renaming, _ := library.Renaming(3, 3, 3)
	set, _ := library.SetAgreement(3, 3, 2)
	leader, _ := library.Leader(2)
	crash, _ := failure.Crash(3, 1)
	crash2, _ := failure.Crash(2, 1)
	snapshot, _ := failure.Snapshot(2)
	snapshot3, _ := failure.Snapshot(3)
	kinds := map[int]bool{}
	partition3, _ := failure.Partition(3, 1)
	three, _ := library.Consensus(3, 2)
	for i, p := range []api.Problem{{Task: three, Adversary: partition3, Rounds: 1}, {Task: consensus, Adversary: crash2, Rounds: 1}, {Task: consensus, Adversary: crash2, Rounds: 2}, {Task: approximate, Adversary: snapshot, Rounds: 1}, {Task: approximate, Adversary: snapshot, Rounds: 2}, {Task: renaming, Adversary: crash, Rounds: 1}, {Task: set, Adversary: snapshot3, Rounds: 1}, {Task: leader, Adversary: snapshot, Rounds: 1}} {
		s, e := execution.Build(p)
		want(t, "Build", e, api.OK)
		c, ok, e := Find(s)
		verdict, r, _, _ := decide.Decide(p)
		want(t, fmt.Sprint("Find ", i), []any{ok, e}, []any{verdict == api.VerdictNo, api.OK})
		if !ok {
			solves, _, _ := rule.Solves(s, r)
			want(t, "Solves", solves, true)
			continue
		}
		kinds[c.Kind] = true
		want(t, fmt.Sprint("Verify ", i), Verify(s, c), api.OK)
		text, _ := Format(c)
		back, e := Parse(text)
		want(t, "Parse", []any{fmt.Sprint(back), e}, []any{fmt.Sprint(c), api.OK})
		for value := range p.Task.Outs {
			constant := api.Rule{Out: make([]int, len(s.Table.Views))}
			for v := range constant.Out {
				constant.Out[v] = value
			}
			w, e := Witness(s, c, constant)
			outs, _ := rule.Decisions(s, constant, w)
			obliged, _ := execution.Obliged(s, w)
			permitted, _ := task.Permitted(p.Task, s.Executions[w].Case, 1<<p.Task.N-1&^obliged, outs)
			want(t, "Witness", []any{permitted, e}, []any{false, api.OK})
		}
	}
	want(t, "kinds", kinds, map[int]bool{1: true, 2: true, 3: true})
}
