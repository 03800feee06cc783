package lexer

import (
	"fmt"
	"slices"
	"strings"
	"testing"

	"roundtable/api"
)

func want(t *testing.T, what string, got, wanted any) {
	t.Helper()
	if fmt.Sprint(got) != fmt.Sprint(wanted) {
		t.Errorf("%s: got %v, want %v", what, got, wanted)
	}
}

func TestScan(t *testing.T) {
	l, at, e := Scan("task x # one\na<=12")
	want(t, "Scan", []any{l, at, e}, []any{[]api.Token{{Kind: api.TokenName, Text: "task"}, {Kind: api.TokenName, Text: "x", At: 5}, {Kind: api.TokenName, Text: "a", At: 13},
		{Kind: api.TokenSign, Text: "<=", At: 14}, {Kind: api.TokenNumber, Text: "12", At: 16}, {Kind: api.TokenEnd, At: 18}}, 0, api.OK})
	s, e := Join(l)
	want(t, "Join", []any{s, e}, []any{"task x a<=12", api.OK})
	for _, x := range []struct {
		src string
		at  int
		e   api.Errno
	}{
		{"12a", 2, api.ErrSyntax}, {"a !b", 2, api.ErrSyntax}, {"a " + strings.Repeat("b", 25), 2, api.ErrName}, {strings.Repeat("b", 24), 0, api.OK},
		{" 1048577", 1, api.ErrRange}, {"0000000000000000000000000001048576", 0, api.OK}, {"99999999999999999999999999x", 26, api.ErrSyntax}, {"\x80", 0, api.ErrSyntax},
		{"a_b", 1, api.ErrSyntax}, {"#", 0, api.OK}, {"# \x80\n!", 4, api.ErrSyntax}, {"!", 0, api.ErrSyntax}, {"a\vb", 1, api.ErrSyntax}, {"1!=2", 0, api.OK}, {">", 0, api.ErrSyntax},
		{strings.Repeat("!", api.MaxText+1), 0, api.ErrLong}, {strings.Repeat(" ", api.MaxText), 0, api.OK}, {"1048577 !", 0, api.ErrRange},
	} {
		l, at, e := Scan(x.src)
		want(t, "Scan", []any{at, e}, []any{x.at, x.e})
		if (len(l) == 0) != (x.e != api.OK) {
			t.Errorf("tokens of %q: %v", x.src, l)
		}
	}
}

func TestJoin(t *testing.T) {
	name := func(s string) api.Token { return api.Token{Kind: api.TokenName, Text: s, At: 77} }
	sign := func(s string) api.Token { return api.Token{Kind: api.TokenSign, Text: s} }
	number := func(s string) api.Token { return api.Token{Kind: api.TokenNumber, Text: s} }
	for _, x := range []struct {
		l []api.Token
		s string
		e api.Errno
	}{
		{[]api.Token{name("a"), sign("<"), sign("="), number("1")}, "a< =1", api.OK}, {nil, "", api.OK}, {[]api.Token{number("1"), name("a"), number("007")}, "1 a 007", api.OK},
		{[]api.Token{sign("<"), sign("<="), sign("="), {Kind: api.TokenEnd}}, "<<==", api.OK}, {[]api.Token{{Kind: 4, Text: "?"}}, "", api.ErrArg}, {[]api.Token{{Kind: -1}}, "", api.ErrArg},
		{[]api.Token{name("1a")}, "", api.ErrForm}, {[]api.Token{name("")}, "", api.ErrForm}, {[]api.Token{number("1048577")}, "", api.ErrForm}, {[]api.Token{sign("!")}, "", api.ErrForm},
		{[]api.Token{{Kind: api.TokenEnd, Text: "a"}}, "", api.ErrForm}, {[]api.Token{{Kind: api.TokenEnd}, sign("!")}, "", api.ErrOrder}, {[]api.Token{name("for")}, "for", api.OK},
		{make([]api.Token, api.MaxText+1), "", api.ErrMany}, {slices.Repeat([]api.Token{number("12")}, 30000), "", api.ErrLong},
	} {
		s, e := Join(x.l)
		want(t, "Join", []any{s, e}, []any{x.s, x.e})
	}
}

func TestNames(t *testing.T) {
	l := Keywords()
	if len(l) != 46 || !slices.IsSorted(l) {
		t.Errorf("Keywords: %v", l)
	}
	for _, s := range l {
		want(t, s, []any{Reserved(s), Name(s)}, []any{true, api.ErrName})
	}
	l[0] = "x"
	want(t, "Keywords", Keywords()[0], "C")
	for s, e := range map[string]api.Errno{"a": api.OK, "p0": api.OK, "": api.ErrName, "0p": api.ErrName, "a b": api.ErrName, strings.Repeat("x", 25): api.ErrName, "c": api.OK} {
		want(t, "Name "+s, []any{Name(s), Reserved(s)}, []any{e, false})
	}
}

func TestPlaces(t *testing.T) {
	src := "a\n\tbc"
	line, column, e := Position(src, 4)
	want(t, "Position", []any{line, column, e}, []any{2, 3, api.OK})
	s, e := Excerpt(src, 4)
	want(t, "Excerpt", []any{s, e}, []any{"\tbc\n\t ^", api.OK})
	s, _ = Excerpt("ab\n", 2)
	want(t, "Excerpt", s, "ab\n  ^")
	s, _ = Excerpt("ab\n", 3)
	want(t, "Excerpt", s, "\n^")
	long := strings.Repeat("a", api.MaxText+1)
	for _, at := range []int{-1, 6} {
		_, _, e = Position(src, at)
		want(t, "Position", e, api.ErrRange)
		_, e = Excerpt(src, at)
		want(t, "Excerpt", e, api.ErrRange)
		_, _, e = Position(long, at)
		want(t, "Position", e, api.ErrLong)
		_, e = Excerpt(long, at)
		want(t, "Excerpt", e, api.ErrLong)
		_, e = Offset(long, at, at)
		want(t, "Offset", e, api.ErrLong)
	}
	for _, x := range [][2]int{{0, 1}, {1, 0}, {1, 3}, {2, 5}, {3, 1}, {-1, -1}} {
		_, e = Offset(src, x[0], x[1])
		want(t, "Offset", e, api.ErrNone)
	}
	for _, src := range []string{"", "\n", "a\n\tbc", "ab\n\nc\n"} {
		for at := range len(src) + 1 {
			line, column, _ := Position(src, at)
			back, e := Offset(src, line, column)
			want(t, "Offset", []any{back, e}, []any{at, api.OK})
		}
	}
}

func TestJoinedTexts(t *testing.T) {
	words := []string{"a", "1", "<", "=", "<=", "!=", "+", "in", "("}
	for _, a := range words {
		for _, b := range words {
			l, _, _ := Scan(a + " " + b)
			s, _ := Join(l)
			again, _, e := Scan(s)
			same := e == api.OK && len(again) == len(l)
			for i := range l[:min(len(l), len(again))] {
				same = same && l[i].Text == again[i].Text && l[i].Kind == again[i].Kind
			}
			want(t, "tokens of "+s, same, true)
			shorter, _, e := Scan(strings.ReplaceAll(s, " ", ""))
			if strings.Contains(s, " ") && e == api.OK && len(shorter) == len(l) {
				t.Errorf("a blank of %q can be left out", s)
			}
		}
	}
}
