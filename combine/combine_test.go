package combine

import (
	"fmt"
	"testing"

	"roundtable/adversary"
	"roundtable/api"
	"roundtable/failure"
	"roundtable/parser"
	"roundtable/resolve"
)

func want(t *testing.T, what string, got, wanted any) {
	t.Helper()
	if fmt.Sprint(got) != fmt.Sprint(wanted) {
		t.Errorf("%s: got %v, want %v", what, got, wanted)
	}
}

func letter(faulty int, hears ...int) api.Round {
	r := api.Round{Graph: api.Graph{N: len(hears)}, Faulty: faulty}
	copy(r.Graph.Hears[:], hears)
	return r
}

func only(r api.Round) api.Adversary {
	return api.Adversary{N: r.Graph.N, States: [][]api.Move{{{Round: r}}}}
}

var silent, complete = letter(0, 1, 2), letter(0, 3, 3)

func TestExamples(t *testing.T) {
	a, b := only(complete), only(silent)
	c, e := Or(a, b)
	want(t, "Or", []any{c, e}, []any{api.Adversary{N: 2, States: [][]api.Move{{{Round: silent, To: 1}, {Round: complete, To: 2}}, {{Round: silent, To: 1}}, {{Round: complete, To: 2}}}}, api.OK})
	_, e = And(a, b)
	want(t, "And", e, api.ErrEmpty)
	c, e = Then(a, 2, b)
	want(t, "Then", []any{c, e}, []any{api.Adversary{N: 2, States: [][]api.Move{{{Round: complete, To: 1}}, {{Round: complete, To: 2}}, {{Round: silent, To: 2}}}}, api.OK})
	c, _ = Then(only(letter(1, 3, 3)), 2, b)
	want(t, "Then", []any{c.States[1][0].Round, c.States[2][0].Round}, []any{letter(1, 3, 3), letter(1, 1, 2)})
	c, _ = Then(a, 0, b)
	want(t, "Then", c, b)
}

func TestDead(t *testing.T) {
	// a permits silent rounds after the first one, b one of them only.
	a := api.Adversary{N: 2, States: [][]api.Move{{{Round: silent, To: 0}, {Round: complete, To: 1}}, {{Round: complete, To: 1}}}}
	b := api.Adversary{N: 2, States: [][]api.Move{{{Round: silent, To: 1}, {Round: complete, To: 0}}, {{Round: letter(0, 1, 3), To: 1}}}}
	c, e := And(a, b)
	want(t, "And", []any{c, e}, []any{api.Adversary{N: 2, States: [][]api.Move{{{Round: complete, To: 1}}, {{Round: complete, To: 1}}}}, api.OK})
}

func TestSets(t *testing.T) {
	// Rounds of b with the same graph differ in their Faulty alone.
	b := api.Adversary{N: 2, States: [][]api.Move{
		{{Round: silent, To: 1}, {Round: letter(1, 1, 2), To: 2}}, {{Round: complete, To: 1}}, {{Round: letter(1, 1, 3), To: 2}},
	}}
	c, e := Then(only(letter(1, 3, 3)), 1, b)
	want(t, "Then", []any{len(c.States), e, adversary.Check(c)}, []any{5, api.OK, api.OK})
	want(t, "Then", c.States[1], []api.Move{{Round: letter(1, 1, 2), To: 2}})
	want(t, "Then", c.States[2], []api.Move{{Round: letter(1, 1, 3), To: 3}, {Round: letter(1, 3, 3), To: 4}})
}

func TestErrors(t *testing.T) {
	a, b := only(complete), only(silent)
	bad := api.Adversary{}
	three := only(letter(0, 1, 2, 4))
	for _, x := range []struct {
		a, b api.Adversary
		e    api.Errno
	}{{bad, api.Adversary{N: 1}, api.ErrRange}, {a, api.Adversary{N: 1}, api.ErrMany}, {a, three, api.ErrMismatch}} {
		_, e := Or(x.a, x.b)
		want(t, "Or", e, x.e)
		_, e = And(x.a, x.b)
		want(t, "And", e, x.e)
		_, e = Then(x.a, 9, x.b)
		want(t, "Then", e, x.e)
	}
	for _, k := range []int{-1, 7} {
		_, e := Then(a, k, b)
		want(t, "Then", e, api.ErrRange)
	}
	truth := api.Expr{Op: api.ExprEqual, Args: []api.Expr{{}, {}}}
	all, _ := failure.Graphs(4, truth)
	_, e := Then(all, 1, all)
	want(t, "Then", e, api.ErrLimit)
	ring := func(length int) api.Adversary {
		r := api.Adversary{N: 2}
		for s := range length {
			r.States = append(r.States, []api.Move{{Round: complete, To: (s + 1) % length}})
		}
		return r
	}
	_, e = Or(ring(16), ring(17))
	want(t, "Or", e, api.ErrLimit)
	_, e = And(ring(16), ring(17))
	want(t, "And", e, api.ErrLimit)
	c, e := And(ring(15), ring(17))
	want(t, "And", []any{len(c.States), e}, []any{255, api.OK})
	for i, x := range []struct {
		n     int
		named []api.Adversary
		s     api.Scheme
		e     api.Errno
	}{
		{0, nil, api.Scheme{}, api.ErrRange}, {2, make([]api.Adversary, 1025), api.Scheme{}, api.ErrMany}, {2, []api.Adversary{three, bad}, api.Scheme{}, api.ErrMismatch}, {2, []api.Adversary{bad}, api.Scheme{Op: 99}, api.ErrRange}, {2, []api.Adversary{a}, api.Scheme{Num: 1}, api.ErrName}, {2, nil, api.Scheme{Op: 99}, api.ErrArg},
		{2, nil, api.Scheme{Op: api.SchemeCrash, Num: 3}, api.ErrRange}, {2, []api.Adversary{a, b}, api.Scheme{Op: api.SchemeAnd, Args: []api.Scheme{{}, {Num: 1}}}, api.ErrEmpty}, {2, []api.Adversary{a}, api.Scheme{}, api.OK},
		{2, []api.Adversary{a, b}, api.Scheme{Op: api.SchemeOr, Args: []api.Scheme{{Op: api.SchemeAnd, Args: []api.Scheme{{}, {Num: 1}}}, {Op: api.SchemeCrash, Num: 3}}}, api.ErrEmpty},
	} {
		_, e := Scheme(x.n, x.named, x.s)
		want(t, fmt.Sprint("Scheme ", i), e, x.e)
	}
}

func TestBuild(t *testing.T) {
	tree, _, e := parser.Parse("processes 2; adversary a = crash(1); adversary b = a and send(1) or partition(1) then 1 snapshot; adversary c = b;")
	want(t, "Parse", e, api.OK)
	p, _, _ := resolve.Program(tree)
	l, e := Build(p)
	want(t, "Build", []any{len(l), e}, []any{3, api.OK})
	crash, _ := failure.Crash(2, 1)
	want(t, "Build", l[0], crash)
	want(t, "Build", l[2], l[1])
	l[2].States[0][0].To = 99
	want(t, "memory", adversary.Check(l[1]), api.OK)
	p.Adversaries[1].Scheme = api.Scheme{Op: api.SchemeCrash, Num: 4}
	_, e = Build(p)
	want(t, "Build", e, api.ErrRange)
	p.N = 0
	_, e = Build(p)
	want(t, "Build", e, api.ErrRange)
}

func TestConsequences(t *testing.T) {
	var l []api.Adversary
	for f := range 3 {
		for _, make := range []func(n, f int) (api.Adversary, api.Errno){failure.Crash, failure.Send, failure.Omit, failure.Partition} {
			a, _ := make(2, f)
			l = append(l, a)
		}
	}
	words := func(a api.Adversary, e api.Errno) map[string]bool {
		set := map[string]bool{}
		if e == api.ErrEmpty {
			return set
		}
		want(t, "Check", []any{adversary.Check(a), e}, []any{api.OK, api.OK})
		found, _ := adversary.Words(a, 2)
		for _, w := range found {
			set[fmt.Sprint(w)] = true
		}
		want(t, "different", len(set), len(found))
		return set
	}
	for _, a := range l {
		wa := words(a, api.OK)
		for _, b := range l {
			wb := words(b, api.OK)
			union := map[string]bool{}
			common := map[string]bool{}
			for w := range wa {
				union[w] = true
				if wb[w] {
					common[w] = true
				}
			}
			for w := range wb {
				union[w] = true
			}
			or, _ := Or(a, b)
			want(t, "Or", words(or, api.OK), union)
			and, e := And(a, b)
			want(t, "And", words(and, e), common)
			absorbed, e := And(a, or)
			want(t, "absorption", words(absorbed, e), wa)
			then, e := Then(a, 0, b)
			want(t, "Then", words(then, e), wb)
			then, e = Then(a, 1, b)
			composed := map[string]bool{}
			first, _ := adversary.Words(a, 1)
			second, _ := adversary.Words(b, 1)
			for _, u := range first {
				for _, v := range second {
					r := v[0]
					r.Faulty |= u[0].Faulty
					composed[fmt.Sprint([]api.Round{u[0], r})] = true
				}
			}
			want(t, "Then", words(then, e), composed)
		}
	}
}
