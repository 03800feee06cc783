package partition

import (
	"fmt"
	"testing"

	"roundtable/api"
)

func want(t *testing.T, what string, got, wanted any) {
	t.Helper()
	if fmt.Sprint(got) != fmt.Sprint(wanted) {
		t.Errorf("%s: got %v, want %v", what, got, wanted)
	}
}

func TestExamples(t *testing.T) {
	l, _ := Of([]int{7, 3, 7, 5})
	want(t, "Of", l, []int{0, 1, 0, 2})
	c, _ := Classes(l)
	want(t, "Classes", c, [][]int{{0, 2}, {1}, {3}})
	l, _ = Meet([]int{0, 0, 1, 1}, []int{0, 1, 1, 1})
	want(t, "Meet", l, []int{0, 1, 2, 2})
	l, _ = Join([]int{0, 0, 1, 1}, []int{0, 1, 1, 1})
	want(t, "Join", l, []int{0, 0, 0, 0})
	l, _ = Join([]int{0, 1, 2, 0}, []int{0, 1, 1, 2})
	want(t, "Join", l, []int{0, 1, 1, 0})
	l, _ = Refine([]int{0, 0, 1, 0}, []int{-9, 4, 4, -9})
	want(t, "Refine", l, []int{0, 1, 2, 0})
	l, e := Of(nil)
	want(t, "Of", []any{l, e}, []any{[]int{}, api.OK})
}

func TestErrors(t *testing.T) {
	for _, x := range []struct {
		l []int
		e api.Errno
	}{{[]int{0, 2}, api.ErrOrder}, {[]int{1}, api.ErrOrder}, {[]int{0, -1, 9}, api.ErrRange}, {make([]int, api.MaxSteps+1), api.ErrMany}, {nil, api.OK}, {make([]int, api.MaxSteps), api.OK}} {
		want(t, "Check", Check(x.l), x.e)
		_, e := Classes(x.l)
		want(t, "Classes", e, x.e)
		_, e = Count(x.l)
		want(t, "Count", e, x.e)
		if x.e == api.OK {
			continue
		}
		_, e = Same(x.l, 9, 9)
		want(t, "Same", e, x.e)
		_, e = Refine(x.l, nil)
		want(t, "Refine", e, x.e)
		for _, pair := range [][2][]int{{x.l, {0}}, {{0}, x.l}} {
			_, e = Finer(pair[0], pair[1])
			want(t, "Finer", e, x.e)
			_, e = Meet(pair[0], pair[1])
			want(t, "Meet", e, x.e)
			_, e = Join(pair[0], pair[1])
			want(t, "Join", e, x.e)
		}
	}
	_, e := Of(make([]int, api.MaxSteps+1))
	want(t, "Of", e, api.ErrMany)
	for _, i := range []int{-1, 2} {
		_, e = Same([]int{0, 0}, i, 0)
		want(t, "Same", e, api.ErrRange)
		_, e = Same([]int{0, 0}, 0, i)
		want(t, "Same", e, api.ErrRange)
	}
	_, e = Meet([]int{0}, []int{0, 0})
	want(t, "Meet", e, api.ErrShape)
	_, e = Join([]int{0}, []int{0, 0})
	want(t, "Join", e, api.ErrShape)
	_, e = Finer([]int{0}, []int{0, 0})
	want(t, "Finer", e, api.ErrShape)
	_, e = Refine([]int{0}, nil)
	want(t, "Refine", e, api.ErrShape)
}

// all returns all partitions of n elements.
func all(n int) [][]int {
	l := [][]int{{}}
	for range n {
		var longer [][]int
		for _, a := range l {
			k, _ := Count(a)
			for label := range k + 1 {
				longer = append(longer, append(a[:len(a):len(a)], label))
			}
		}
		l = longer
	}
	return l
}

func TestLattice(t *testing.T) {
	l := all(4)
	want(t, "number", len(l), 15)
	for _, a := range l {
		same, _ := Of(a)
		want(t, "Of", same, a)
		for _, b := range l {
			meet, _ := Meet(a, b)
			join, _ := Join(a, b)
			finer, _ := Finer(a, b)
			want(t, "finer by meet", finer, fmt.Sprint(meet) == fmt.Sprint(a))
			want(t, "finer by join", finer, fmt.Sprint(join) == fmt.Sprint(b))
			other, _ := Meet(b, a)
			want(t, "commutative", meet, other)
			absorbed, _ := Join(a, meet)
			want(t, "absorption", absorbed, a)
			absorbed, _ = Meet(a, join)
			want(t, "absorption", absorbed, a)
			for i := range a {
				for j := range a {
					same, _ := Same(meet, i, j)
					want(t, "Same", same, a[i] == a[j] && b[i] == b[j])
				}
			}
			for _, c := range l {
				left, _ := Join(join, c)
				right, _ := Join(b, c)
				right, _ = Join(a, right)
				want(t, "associative", left, right)
			}
		}
	}
}
