package parser

import (
	"fmt"
	"strings"
	"testing"

	"roundtable/api"
)

func want(t *testing.T, what string, got, wanted any) {
	t.Helper()
	if fmt.Sprint(got) != fmt.Sprint(wanted) {
		t.Errorf("%s: got %v, want %v", what, got, wanted)
	}
}

// brief writes a tree as kind, text, number and offset, with its kids in brackets.
func brief(t api.Syntax) string {
	s := fmt.Sprint(t.Kind)
	if t.Text != "" {
		s += " " + t.Text
	}
	if t.Num != 0 {
		s += fmt.Sprint(" #", t.Num)
	}
	s += fmt.Sprint("@", t.At)
	for _, kid := range t.Kids {
		s += "[" + brief(kid) + "]"
	}
	return s
}

func TestTrees(t *testing.T) {
	for _, x := range []struct {
		read      func(string) (api.Syntax, int, api.Errno)
		src, tree string
	}{
		{Cond, "all p: in(p) = 0 or p < 2", "13 all@0[8 p@4][11 or@7[11 =@7[10 in@7[8 p@10]][9@15]][11 <@20[8 p@20][9 #2@24]]]"},
		{Cond, "(a)=1 and not b or c!=d", "11 or@1[11 and@1[11 =@1[8 a@1][9 #1@4]][12@10[8 b@14]]][11 !=@19[8 c@19][8 d@22]]"},
		{Cond, "1-2+3<=count p(hears(p,007))", "11 <=@0[11 +@0[11 -@0[9 #1@0][9 #2@2]][9 #3@4]][13 count@7[8 p@13][10 hears@15[8 p@21][9 #7@23]]]"},
		{Cond, "not some p:x and not not y", "12@0[13 some@4[8 p@9][11 and@11[8 x@11][12@17[12@21[8 y@25]]]]]"},
		{Scheme, "a or b and crash(1) then 2 c", "11 or@0[8 a@0][11 and@5[8 b@5][11 then #2@11[10 crash@11[9 #1@17]][8 c@27]]]"},
		{Scheme, "(a then 1 b) then 0 graphs(in(1)) then 3 snapshot", "11 then@1[11 then #1@1[8 a@1][8 b@10]][11 then #3@20[10 graphs@20[10 in@27[9 #1@30]]][10 snapshot@41]]"},
		{Formula, "K(0, at(1)) until true", "11 until@0[10 K@0[9@2][10 at@5[9 #1@8]]][10 true@18]"},
		{Formula, "true until given(1) until E({},faulty(0)) and C({0,1},next(true)) or D(everyone,heard(1,2))", "11 until@0[10 true@0][11 until@11[10 given@11[9 #1@17]][11 or@26[11 and@26[10 E@26[14@28][10 faulty@31[9@38]]][10 C@46[14@48[9@49][9 #1@51]][10 next@54[10 true@59]]]][10 D@69[14 everyone@71][10 heard@80[9 #1@86][9 #2@88]]]]]"},
		{Formula, "not (input(0,1) or decided(1,2)) and always(eventually(true))", "11 and@0[12@0[11 or@5[10 input@5[9@11][9 #1@13]][10 decided@19[9 #1@27][9 #2@29]]]][10 always@37[10 eventually@44[10 true@55]]]"},
		{Parse, "processes 2;", "0 #2@0"},
		{Parse, " processes 2; task c inputs 2 outputs 3 where a allow b calm c; adversary d = e; formula f = true; problem p = c under d rounds 1;",
			"0 #2@1[1 c #2@14[9 #3@38][2@40[8 a@46]][3@48[8 b@54]][4@56[8 c@61]]][5 d@64[8 e@78]][6 f@81[10 true@93]][7 p #1@99[8 c@111][8 d@119]]"},
	} {
		tree, at, e := x.read(x.src)
		want(t, x.src, []any{brief(tree), at, e}, []any{x.tree, 0, api.OK})
	}
}

func TestErrors(t *testing.T) {
	for _, x := range []struct {
		read func(string) (api.Syntax, int, api.Errno)
		src  string
		at   int
		e    api.Errno
	}{
		{Formula, "K(0)", 3, api.ErrSyntax}, {Cond, "", 0, api.ErrSyntax}, {Cond, "a b", 2, api.ErrSyntax}, {Cond, "a = b = c", 6, api.ErrSyntax}, {Cond, "a + all p: b", 4, api.ErrSyntax},
		{Cond, "all in: b", 4, api.ErrSyntax}, {Cond, "in(a = b)", 5, api.ErrSyntax}, {Cond, "hears(a)", 7, api.ErrSyntax}, {Cond, "1 = ?", 4, api.ErrSyntax}, {Cond, "2x", 1, api.ErrSyntax}, {Cond, "(a", 2, api.ErrSyntax}, {Cond, "a)", 1, api.ErrSyntax},
		{Cond, "true", 0, api.ErrSyntax}, {Cond, "9999999999 )", 0, api.ErrRange}, {Scheme, "crash(a)", 6, api.ErrSyntax}, {Scheme, "a then b", 7, api.ErrSyntax}, {Scheme, "snapshot()", 8, api.ErrSyntax}, {Scheme, "1", 0, api.ErrSyntax},
		{Formula, "a", 0, api.ErrSyntax}, {Formula, "E({0,},true)", 5, api.ErrSyntax}, {Formula, "E({,},true)", 3, api.ErrSyntax}, {Formula, "E(0,true)", 2, api.ErrSyntax}, {Formula, "true or", 7, api.ErrSyntax}, {Formula, "next true", 5, api.ErrSyntax},
		{Parse, "", 0, api.ErrSyntax}, {Parse, "processes 2", 11, api.ErrSyntax}, {Parse, "processes 2; x", 13, api.ErrSyntax}, {Parse, "processes x;", 10, api.ErrSyntax}, {Parse, "processes 2; task task inputs 1", 18, api.ErrSyntax},
		{Parse, "processes 2; task t inputs 1 outputs 1 where a;", 46, api.ErrSyntax}, {Parse, "processes 2; task t inputs 1 outputs 1 allow a where b;", 47, api.ErrSyntax}, {Parse, "processes 2; problem p = a under b rounds c;", 42, api.ErrSyntax},
		{Parse, strings.Repeat(" ", 65537), 0, api.ErrLong}, {Parse, "processes 2; adversary a = ", 27, api.ErrSyntax},
	} {
		tree, at, e := x.read(x.src)
		want(t, x.src, []any{brief(tree), at, e}, []any{"0@0", x.at, x.e})
	}
}

func TestLevels(t *testing.T) {
	for _, x := range []struct {
		read         func(string) (api.Syntax, int, api.Errno)
		open, middle string
	}{
		{Cond, "(", "a"}, {Cond, "not ", "a"}, {Cond, "all p:", "a"}, {Cond, "in(", "a"}, {Cond, "count p(", "a"}, {Scheme, "(", "a"}, {Scheme, "a then 1 ", "a"}, {Formula, "(", "true"}, {Formula, "true until ", "true"}, {Formula, "K(0,", "true"}, {Formula, "not ", "true"},
	} {
		closed := ""
		if strings.Contains(x.open, "(") {
			closed = ")"
		}
		_, at, e := x.read(strings.Repeat(x.open, 128) + x.middle + strings.Repeat(closed, 128))
		want(t, x.open, []any{at, e}, []any{0, api.OK})
		for _, middle := range []string{x.middle, ")", ""} {
			_, at, e = x.read(strings.Repeat(x.open, 129) + middle + strings.Repeat(closed, 129))
			want(t, x.open, []any{at, e}, []any{128*len(x.open) + behind(x.open), api.ErrDeep})
		}
		_, _, e = x.read(") " + strings.Repeat(x.open, 129))
		want(t, x.open, e, api.ErrSyntax)
	}
	_, _, e := Cond(strings.Repeat("(a) or ", 200) + "a")
	want(t, "levels end", e, api.OK)
}

// behind returns the offset behind the place where a level is opened.
func behind(open string) int {
	if at := strings.IndexByte(open, '('); at >= 0 {
		return at + 1
	}
	return len(open)
}

func TestOffsets(t *testing.T) {
	var check func(tree api.Syntax)
	check = func(tree api.Syntax) {
		for _, kid := range tree.Kids {
			if kid.At < tree.At {
				t.Errorf("offsets of %s", brief(tree))
			}
			check(kid)
		}
	}
	for _, src := range []string{"a and (b or c)", "((all p:(in(p)=0)) or (1<2 and not(x=1)))"} {
		alone, _, _ := Cond(src)
		check(alone)
		spaced, _, _ := Cond(strings.ReplaceAll(src, "(", " ( # \n"))
		program, _, _ := Parse("processes 1; adversary a = graphs(" + src + ");")
		inside := program.Kids[0].Kids[0].Kids[0]
		want(t, "tree", without(inside), without(alone))
		want(t, "tree", without(spaced), without(alone))
	}
}

func without(tree api.Syntax) string {
	tree.At = 0
	s := fmt.Sprint(tree.Kind, tree.Text, tree.Num)
	for _, kid := range tree.Kids {
		s += "(" + without(kid) + ")"
	}
	return s
}
