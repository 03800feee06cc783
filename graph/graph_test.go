package graph

import (
	"fmt"
	"slices"
	"testing"

	"roundtable/api"
	"roundtable/permutation"
)

func want(t *testing.T, what string, got, wanted any) {
	t.Helper()
	if fmt.Sprint(got) != fmt.Sprint(wanted) {
		t.Errorf("%s: got %v, want %v", what, got, wanted)
	}
}

func parse(t *testing.T, s string) api.Graph {
	t.Helper()
	g, e := Parse(s)
	want(t, "Parse "+s, e, api.OK)
	return g
}

func TestExamples(t *testing.T) {
	g := parse(t, "012 01 12")
	want(t, "graph", g, api.Graph{N: 3, Hears: [5]int{7, 3, 6}})
	n, _ := Edges(g)
	kernel, _ := Kernel(g)
	roots, _ := Roots(g)
	want(t, "edges, kernel, roots", []int{n, kernel, roots}, []int{4, 2, 7})
	c, _ := Compose(g, g)
	want(t, "product", c, parse(t, "012 012 012"))
	r, _ := Reverse(g)
	want(t, "reversed", r, parse(t, "01 012 02"))
	p, _ := Permute(g, []int{1, 2, 0})
	want(t, "renamed", p, parse(t, "02 012 12"))
	s, _ := Silent(2)
	text, _ := Format(s)
	want(t, "silent", text, "0 1")
	kernel, _ = Kernel(s)
	roots, _ = Roots(s)
	split, _ := Nonsplit(s)
	want(t, "silent", []any{kernel, roots, split}, []any{0, 0, false})
	s, _ = Complete(2)
	text, _ = Format(s)
	want(t, "complete", text, "01 01")
}

func TestErrors(t *testing.T) {
	good := parse(t, "01 1")
	for _, x := range []struct {
		g api.Graph
		e api.Errno
	}{
		{api.Graph{}, api.ErrRange}, {api.Graph{N: 6}, api.ErrRange}, {api.Graph{N: 2, Hears: [5]int{4, 2}}, api.ErrRange},
		{api.Graph{N: 2, Hears: [5]int{-1, 0}}, api.ErrRange}, {api.Graph{N: 2, Hears: [5]int{2, 9}}, api.ErrForm},
		{api.Graph{N: 2, Hears: [5]int{1, 2, 1}}, api.ErrForm}, {good, api.OK},
	} {
		want(t, "Check", Check(x.g), x.e)
		_, e := Reverse(x.g)
		want(t, "Reverse", e, x.e)
		_, e = Edges(x.g)
		want(t, "Edges", e, x.e)
		_, e = Kernel(x.g)
		want(t, "Kernel", e, x.e)
		_, e = Roots(x.g)
		want(t, "Roots", e, x.e)
		_, e = Nonsplit(x.g)
		want(t, "Nonsplit", e, x.e)
		_, e = Format(x.g)
		want(t, "Format", e, x.e)
		_, e = Permute(x.g, []int{0, 1})
		want(t, "Permute", e, x.e)
		for _, pair := range [][2]api.Graph{{x.g, good}, {good, x.g}} {
			_, e = Compose(pair[0], pair[1])
			want(t, "Compose", e, x.e)
			_, e = Union(pair[0], pair[1])
			want(t, "Union", e, x.e)
			_, e = Inside(pair[0], pair[1])
			want(t, "Inside", e, x.e)
		}
	}
	_, e := Compose(good, parse(t, "0"))
	want(t, "Compose", e, api.ErrMismatch)
	_, e = Permute(good, []int{0})
	want(t, "Permute", e, api.ErrMismatch)
	_, e = Permute(good, []int{0, 0})
	want(t, "Permute", e, api.ErrTwice)
	for _, n := range []int{-1, 0, 6} {
		_, e = Complete(n)
		want(t, "Complete", e, api.ErrRange)
		_, e = Silent(n)
		want(t, "Silent", e, api.ErrRange)
		_, e = All(n)
		want(t, "All", e, api.ErrRange)
	}
	_, e = All(5)
	want(t, "All", e, api.ErrLimit)
	for _, s := range []string{"", " ", "01 0", "10 1", "01  1", "01 1 ", "012 1", "0a 1", "00 1", "0 1 2 3 4 5", "5"} {
		_, e = Parse(s)
		want(t, "Parse "+s, e, api.ErrSyntax)
	}
}

func TestAll(t *testing.T) {
	for n, size := range []int{0, 1, 4, 64, 4096} {
		if n == 0 {
			continue
		}
		l, e := All(n)
		want(t, "All", []any{len(l), e}, []any{size, api.OK})
		if !slices.IsSortedFunc(l, Compare) || Compare(l[0], l[0]) != 0 {
			t.Errorf("All(%d) is not ascending", n)
		}
		for _, g := range l[:min(size, 64)] {
			s, _ := Format(g)
			want(t, "text", parse(t, s), g)
			want(t, "Check", Check(g), api.OK)
		}
	}
	want(t, "Compare", Compare(api.Graph{N: 3}, api.Graph{N: 2, Hears: [5]int{9}}), 1)
}

func TestConsequences(t *testing.T) {
	l, _ := All(3)
	silent, _ := Silent(3)
	renaming, _ := permutation.Parse(3, "(0 1 2)")
	for _, a := range l {
		c, _ := Compose(a, silent)
		want(t, "neutral", c, a)
		for _, b := range l {
			ab, _ := Compose(a, b)
			pa, _ := Permute(a, renaming)
			pb, _ := Permute(b, renaming)
			left, _ := Compose(pa, pb)
			right, _ := Permute(ab, renaming)
			want(t, "renaming", left, right)
			ra, _ := Reverse(a)
			rb, _ := Reverse(b)
			left, _ = Compose(rb, ra)
			right, _ = Reverse(ab)
			want(t, "reversing", left, right)
			u, _ := Union(a, b)
			inside, _ := Inside(a, u)
			want(t, "Inside", inside, true)
			inside, _ = Inside(u, a)
			want(t, "Inside", inside, u == a)
			rootsA, _ := Roots(a)
			rootsB, _ := Roots(b)
			if rootsA != 0 && rootsB != 0 {
				nonsplit, _ := Nonsplit(ab)
				want(t, "nonsplit", nonsplit, true)
			}
			g := l[37]
			left, _ = Compose(ab, g)
			right, _ = Compose(b, g)
			right, _ = Compose(a, right)
			want(t, "associative", left, right)
		}
	}
}
