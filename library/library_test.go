package library

import (
	"fmt"
	"testing"

	"roundtable/api"
	"roundtable/permutation"
	"roundtable/task"
)

func want(t *testing.T, what string, got, wanted any) {
	t.Helper()
	if fmt.Sprint(got) != fmt.Sprint(wanted) {
		t.Errorf("%s: got %v, want %v", what, got, wanted)
	}
}

func TestExamples(t *testing.T) {
	c, _ := Consensus(2, 2)
	want(t, "Consensus", c, api.Task{N: 2, Ins: 2, Outs: 2, Cases: []api.Case{{In: []int{0, 0}, Out: [][]int{{0, 0}}}, {In: []int{0, 1}, Out: [][]int{{0, 0}, {1, 1}}}, {In: []int{1, 0}, Out: [][]int{{0, 0}, {1, 1}}}, {In: []int{1, 1}, Out: [][]int{{1, 1}}}}})
	c, _ = Approximate(2, 3)
	want(t, "Approximate", c.Cases[1].Out, [][]int{{0, 0}, {0, 1}, {1, 0}, {1, 1}, {1, 2}, {2, 1}, {2, 2}, {2, 3}, {3, 2}, {3, 3}})
	want(t, "Approximate", c.Cases[3].Out, [][]int{{3, 3}})
	c, _ = Renaming(2, 3, 3)
	want(t, "Renaming", []int{len(c.Cases), len(c.Cases[0].Out), len(c.Cases[5].Out)}, []int{6, 6, 6})
	c, _ = Crusader(2, 2)
	want(t, "Crusader", []any{c.Outs, c.Cases[2].Out, c.Cases[2].Calm}, []any{3, [][]int{{0, 0}, {0, 2}, {1, 1}, {1, 2}, {2, 0}, {2, 1}, {2, 2}}, [][]int{{1, 1}}})
	c, _ = Commit(2)
	want(t, "Commit", []any{c.Cases[1].Out, c.Cases[1].Calm, c.Cases[3].Out, c.Cases[3].Calm}, []any{[][]int{{0, 0}}, [][]int{{0, 0}}, [][]int{{0, 0}, {1, 1}}, [][]int{{1, 1}}})
	c, _ = Leader(3)
	want(t, "Leader", c.Cases, []api.Case{{In: []int{0, 0, 0}, Out: [][]int{{0, 0, 1}, {0, 1, 0}, {1, 0, 0}}}})
	c, _ = SetAgreement(3, 3, 2)
	want(t, "SetAgreement", []int{len(c.Cases[5].Out), len(c.Cases[0].Out), len(c.Cases[1].Out)}, []int{21, 1, 8})
}

func TestErrors(t *testing.T) {
	const most = int(^uint(0) >> 1)
	for i, x := range []struct {
		name    string
		n, a, b int
		e       api.Errno
	}{
		{"consensus", 0, 2, 0, api.ErrRange}, {"consensus", 6, 2, 0, api.ErrRange}, {"consensus", 2, 0, 0, api.ErrRange}, {"consensus", 2, 9, 0, api.ErrRange}, {"consensus", 5, 4, 99, api.OK}, {"consensus", 5, 5, 0, api.ErrLimit}, {"consensus", 1, 8, 0, api.OK},
		{"set", 2, 2, 0, api.ErrRange}, {"set", 2, 2, 3, api.ErrRange}, {"set", 5, 4, 5, api.OK}, {"set", 5, 5, 6, api.ErrRange}, {"approximate", 2, -1, 0, api.ErrRange}, {"approximate", 2, 8, 0, api.ErrRange}, {"approximate", 2, most, 0, api.ErrRange}, {"approximate", 5, 7, 0, api.OK}, {"approximate", 3, 0, 0, api.OK},
		{"renaming", 3, 3, 2, api.ErrEmpty}, {"renaming", 3, 2, 3, api.ErrEmpty}, {"renaming", 5, 8, 8, api.ErrLimit}, {"renaming", 5, 8, 4, api.ErrEmpty}, {"renaming", 5, 5, 8, api.ErrLimit}, {"renaming", 5, 5, 5, api.OK}, {"renaming", 5, 9, 5, api.ErrRange}, {"renaming", 5, 5, 9, api.ErrRange},
		{"crusader", 2, 8, 0, api.ErrRange}, {"crusader", 2, most, 0, api.ErrRange}, {"crusader", 2, 7, 0, api.OK}, {"crusader", 2, 0, 0, api.ErrRange}, {"crusader", 5, 4, 0, api.OK}, {"commit", 5, -7, -7, api.OK}, {"commit", 0, 1, 1, api.ErrRange}, {"leader", 5, -7, -7, api.OK}, {"leader", 6, 1, 1, api.ErrRange},
		{"Consensus", 0, 0, 0, api.ErrName}, {"", 2, 2, 2, api.ErrName}, {"crusader", 5, 5, 0, api.ErrLimit},
	} {
		c, e := Get(x.name, x.n, x.a, x.b)
		want(t, fmt.Sprint("Get ", i), e, x.e)
		if e == api.OK {
			want(t, fmt.Sprint("Check ", i), task.Check(c), api.OK)
		}
	}
	want(t, "Names", Names(), []string{"approximate", "commit", "consensus", "crusader", "leader", "renaming", "set"})
}

func TestConsequences(t *testing.T) {
	for _, name := range Names() {
		c, e := Get(name, 3, 3, 3)
		want(t, name, e, api.OK)
		agreement, _ := task.Agreement(c)
		want(t, name, agreement, name == "consensus" || name == "commit")
		l, _ := permutation.All(3)
		for _, p := range l {
			renamed, _ := task.Permute(c, p)
			if name != "crusader" {
				want(t, name, renamed, c)
			}
		}
	}
	c, _ := Consensus(3, 3)
	s, _ := SetAgreement(3, 3, 1)
	want(t, "set agreement", s, c)
}
