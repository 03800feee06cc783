package procset

import (
	"fmt"
	"testing"

	"roundtable/api"
)

func want(t *testing.T, what string, got, wanted any) {
	t.Helper()
	if fmt.Sprint(got) != fmt.Sprint(wanted) {
		t.Errorf("%s: got %v, want %v", what, got, wanted)
	}
}

func TestExamples(t *testing.T) {
	l, e := Members(4, 13)
	want(t, "Members", []any{l, e}, []any{[]int{0, 2, 3}, api.OK})
	n, e := Size(4, 13)
	want(t, "Size", []any{n, e}, []any{3, api.OK})
	s, e := Format(4, 13)
	want(t, "Format", []any{s, e}, []any{"{0,2,3}", api.OK})
	set, e := Of(4, []int{3, 0, 2})
	want(t, "Of", []any{set, e}, []any{13, api.OK})
	l, _ = Subsets(4, 5)
	want(t, "Subsets", l, []int{0, 1, 4, 5})
	l, _ = Choose(4, 5, 1)
	want(t, "Choose", l, []int{1, 4})
	for text, wanted := range map[string]api.Errno{
		"{0,4}": api.ErrRange, "{2,0}": api.ErrOrder, "{0,0}": api.ErrTwice, "{0, 2}": api.ErrSyntax, "": api.ErrSyntax, "{,}": api.ErrSyntax,
		"{": api.ErrSyntax, "}": api.ErrSyntax, "{01}": api.ErrSyntax, "{-1}": api.ErrSyntax, "{}": api.OK, "{2,1,2}": api.ErrTwice,
		"{0,1,2,3,4,5,6,7,8,9,0,1}": api.ErrLong,
	} {
		_, e := Parse(4, text)
		want(t, "Parse "+text, e, wanted)
	}
}

func TestErrors(t *testing.T) {
	for _, x := range []struct {
		n, set int
		e      api.Errno
	}{{0, 0, api.ErrArg}, {6, 0, api.ErrArg}, {-1, 99, api.ErrArg}, {3, 8, api.ErrRange}, {3, -1, api.ErrRange}, {5, 31, api.OK}, {1 << 62, 1, api.ErrArg}} {
		want(t, "Check", Check(x.n, x.set), x.e)
		_, e := Members(x.n, x.set)
		want(t, "Members", e, x.e)
		_, e = Size(x.n, x.set)
		want(t, "Size", e, x.e)
		_, e = Least(x.n, x.set)
		want(t, "Least", e, x.e)
		_, e = Subsets(x.n, x.set)
		want(t, "Subsets", e, x.e)
		_, e = Format(x.n, x.set)
		want(t, "Format", e, x.e)
		_, e = Choose(x.n, x.set, 0)
		want(t, "Choose", e, x.e)
	}
	_, e := Least(3, 0)
	want(t, "Least", e, api.ErrEmpty)
	_, e = All(6)
	want(t, "All", e, api.ErrArg)
	_, e = Of(0, nil)
	want(t, "Of", e, api.ErrArg)
	_, e = Parse(6, "{")
	want(t, "Parse", e, api.ErrArg)
	_, e = Of(3, []int{1, 1, 5})
	want(t, "Of", e, api.ErrTwice)
	_, e = Choose(3, 3, 3)
	want(t, "Choose", e, api.ErrRange)
	_, e = Choose(3, 3, -1)
	want(t, "Choose", e, api.ErrRange)
}

func TestConsequences(t *testing.T) {
	for n := 1; n <= api.MaxProcs; n++ {
		all, _ := All(n)
		texts := map[string]bool{}
		for set := 0; set <= all; set++ {
			l, _ := Members(n, set)
			back, _ := Of(n, l)
			want(t, "Of Members", back, set)
			subs, _ := Subsets(n, set)
			want(t, "number of subsets", len(subs), 1<<len(l))
			for i, sub := range subs {
				if sub&^set != 0 || i > 0 && sub <= subs[i-1] {
					t.Errorf("Subsets(%d, %d): %v", n, set, subs)
				}
			}
			for k := range len(l) + 1 {
				a, _ := Choose(n, set, k)
				b, _ := Choose(n, set, len(l)-k)
				for i := range a {
					want(t, "complement", a[i], set-b[len(b)-1-i])
				}
			}
			s, _ := Format(n, set)
			back, e := Parse(n, s)
			want(t, "Parse", []any{back, e}, []any{set, api.OK})
			texts[s] = true
			if p, e := Least(n, set); e == api.OK {
				want(t, "Least", p, l[0])
			}
		}
		want(t, "texts", len(texts), all+1)
	}
}
