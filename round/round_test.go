package round

import (
	"fmt"
	"slices"
	"strings"
	"testing"

	"roundtable/api"
	"roundtable/graph"
	"roundtable/permutation"
)

func want(t *testing.T, what string, got, wanted any) {
	t.Helper()
	if fmt.Sprint(got) != fmt.Sprint(wanted) {
		t.Errorf("%s: got %v, want %v", what, got, wanted)
	}
}

func word(t *testing.T, n int, s string) []api.Round {
	t.Helper()
	l, e := Parse(n, s)
	want(t, s, e, api.OK)
	return l
}

func TestExamples(t *testing.T) {
	text := "012 012 012 / 01 01 2 !2"
	l := word(t, 3, text)
	s, e := Format(3, l)
	want(t, "Format", []any{s, e}, []any{text, api.OK})
	obliged, _ := Obliged(3, l)
	faulty, _ := Faulty(3, l)
	g, _ := Product(3, l)
	s, _ = graph.Format(g)
	want(t, "word", []any{obliged, faulty, s}, []any{3, 4, "012 012 012"})
	r, e := Permute(l[1], []int{1, 2, 0})
	s, _ = Format(3, []api.Round{r})
	want(t, "Permute", []any{s, r.Faulty, e}, []any{"0 12 12 !0", 1, api.OK})
	slices.Reverse(l)
	want(t, "Word", Word(3, l), api.ErrOrder)
	g, _ = Product(2, nil)
	obliged, _ = Obliged(2, nil)
	faulty, _ = Faulty(2, nil)
	s, _ = Format(2, nil)
	want(t, "empty word", []any{g, obliged, faulty, s}, []any{api.Graph{N: 2, Hears: [5]int{1, 2}}, 3, 0, "none"})
	l = word(t, 3, "0 01 12 / 01 1 2")
	g, _ = Product(3, l)
	s, _ = graph.Format(g)
	want(t, "order of factors", s, "01 01 12")
}

func TestEmptyWord(t *testing.T) {
	for n := 1; n <= api.MaxProcs; n++ {
		for _, l := range [][]api.Round{nil, {}} {
			s, e := Format(n, l)
			want(t, "Format", []any{s, e}, []any{"none", api.OK})
		}
		l, e := Parse(n, "none")
		want(t, "Parse none", []any{len(l), e}, []any{0, api.OK})
		silent, _ := graph.Silent(n)
		one, _ := graph.Format(silent)
		for _, s := range []string{"", " ", "None", "NONE", "non", "none ", " none", "nonenone", "none none", "none !", "none !0", "none / none", "none / " + one, one + " / none", one + " none", "none / ", "/"} {
			l, e := Parse(n, s)
			want(t, "Parse "+s, []any{len(l), e}, []any{0, api.ErrSyntax})
		}
	}
	for _, n := range []int{-1, 0, api.MaxProcs + 1} {
		s, e := Format(n, nil)
		want(t, "Format", []any{s, e}, []any{"", api.ErrArg})
		for _, s := range []string{"none", ""} {
			l, e := Parse(n, s)
			want(t, "Parse "+s, []any{len(l), e}, []any{0, api.ErrArg})
		}
	}
}

func TestErrors(t *testing.T) {
	good := api.Round{Graph: api.Graph{N: 2, Hears: [5]int{1, 2}}, Faulty: 1}
	broken, faulty, negative := good, good, good
	broken.Graph.Hears[0], broken.Faulty = 2, 9
	faulty.Faulty, negative.Faulty = 4, -1
	calm := good
	calm.Faulty = 2
	for _, x := range []struct {
		n int
		l []api.Round
		e api.Errno
	}{
		{0, nil, api.ErrArg}, {6, make([]api.Round, 1025), api.ErrArg}, {2, make([]api.Round, 1025), api.ErrMany}, {3, []api.Round{broken}, api.ErrForm}, {3, []api.Round{faulty}, api.ErrRange}, {2, []api.Round{negative}, api.ErrRange}, {3, []api.Round{good}, api.ErrMismatch},
		{2, []api.Round{good, calm, broken}, api.ErrOrder}, {2, []api.Round{good, good}, api.OK},
	} {
		want(t, "Word", Word(x.n, x.l), x.e)
		_, e := Faulty(x.n, x.l)
		want(t, "Faulty", e, x.e)
		_, e = Obliged(x.n, x.l)
		want(t, "Obliged", e, x.e)
		_, e = Product(x.n, x.l)
		want(t, "Product", e, x.e)
		_, e = Format(x.n, x.l)
		want(t, "Format", e, x.e)
	}
	want(t, "Check", []any{Check(good), Check(broken), Check(faulty), Check(negative), Check(api.Round{})}, []any{api.OK, api.ErrForm, api.ErrRange, api.ErrRange, api.ErrRange})
	for _, x := range []struct {
		r    api.Round
		perm []int
		e    api.Errno
	}{{faulty, []int{0, 0}, api.ErrRange}, {good, []int{0, 0}, api.ErrTwice}, {good, []int{0}, api.ErrMismatch}} {
		_, e := Permute(x.r, x.perm)
		want(t, "Permute", e, x.e)
	}
	for s, wanted := range map[string]api.Errno{
		"0 1 !": api.ErrSyntax, "0 1 !7": api.ErrRange, "0 1 !10": api.ErrSyntax, "0 1 !00": api.ErrSyntax, "0 1/0 1": api.ErrSyntax, "0 1 / ": api.ErrSyntax, " ": api.ErrSyntax, "0 1 / / 0 1": api.ErrSyntax, "0 1 !0 / 0 1": api.ErrOrder,
		"0 1 2": api.ErrMismatch, "0": api.ErrMismatch, "0 0": api.ErrSyntax, "0 1!0": api.ErrSyntax, "0 1 !a": api.ErrSyntax, "0 1 !01 ": api.ErrSyntax, "0 1 !01": api.OK, "0 1 !9": api.ErrRange, "0 1 !1 !1": api.ErrSyntax,
	} {
		_, e := Parse(2, s)
		want(t, "Parse "+s, e, wanted)
	}
	_, e := Parse(6, strings.Repeat("x", 70000))
	want(t, "Parse", e, api.ErrArg)
	_, e = Parse(5, strings.Repeat("x", api.MaxText+1))
	want(t, "Parse", e, api.ErrLong)
	_, e = Parse(1, strings.Repeat("0 / ", 1024)+"0")
	want(t, "Parse", e, api.ErrMany)
}

func TestConsequences(t *testing.T) {
	graphs, _ := graph.All(2)
	var rounds []api.Round
	for _, g := range graphs {
		for faulty := range 4 {
			rounds = append(rounds, api.Round{Graph: g, Faulty: faulty})
		}
	}
	want(t, "order", slices.IsSortedFunc(rounds, Compare), true)
	want(t, "Compare", []int{Compare(rounds[1], rounds[0]), Compare(rounds[3], rounds[4]), Compare(rounds[5], rounds[5])}, []int{1, -1, 0})
	texts := map[string]bool{}
	for _, l := range append([][]api.Round{nil}, slices.Collect(slices.Chunk(rounds, 1))...) {
		s, _ := Format(2, l)
		texts[s] = true
		want(t, "Parse", word(t, 2, s), l)
	}
	swap := []int{1, 0}
	for _, a := range rounds {
		for _, b := range rounds {
			l := []api.Round{a, b}
			if a.Faulty&^b.Faulty != 0 {
				want(t, "Word", Word(2, l), api.ErrOrder)
				continue
			}
			s, _ := Format(2, l)
			texts[s] = true
			want(t, "Parse", word(t, 2, s), l)
			ra, _ := Permute(a, swap)
			rb, _ := Permute(b, swap)
			renamed := []api.Round{ra, rb}
			g, _ := Product(2, l)
			g, _ = graph.Permute(g, swap)
			h, _ := Product(2, renamed)
			want(t, "renamed product", h, g)
			o, _ := Obliged(2, l)
			o, _ = permutation.Set(swap, o)
			r, _ := Obliged(2, renamed)
			want(t, "renamed obliged", r, o)
		}
	}
	want(t, "texts", len(texts), 1+16+16*9)
}
