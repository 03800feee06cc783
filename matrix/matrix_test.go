package matrix

import (
	"fmt"
	"slices"
	"testing"

	"roundtable/api"
)

func want(t *testing.T, what string, got, wanted any) {
	t.Helper()
	if fmt.Sprint(got) != fmt.Sprint(wanted) {
		t.Errorf("%s: got %v, want %v", what, got, wanted)
	}
}

func example() api.Matrix { return api.Matrix{Cols: 4, Rows: [][]int{{0, 1}, {1, 2}, {0, 2}, {3}}} }

func TestExamples(t *testing.T) {
	m := example()
	echelon, _ := Echelon(m)
	want(t, "Echelon", echelon, api.Matrix{Cols: 4, Rows: [][]int{{0, 2}, {1, 2}, {3}}})
	rank, _ := Rank(m)
	want(t, "Rank", rank, 3)
	kernel, _ := Kernel(m)
	want(t, "Kernel", kernel, api.Matrix{Cols: 4, Rows: [][]int{{0, 1, 2}}})
	x, y, ok, _ := Solve(m, []int{0, 1, 3})
	want(t, "Solve", []any{x, y, ok}, []any{[]int{1, 3}, []int{}, true})
	x, y, ok, _ = Solve(m, []int{0})
	want(t, "Solve", []any{x, y, ok}, []any{[]int{}, []int{0, 1, 2}, false})
	want(t, "Verify", Verify(m, []int{0}, y), api.OK)
	want(t, "Verify", Verify(m, []int{0, 1}, y), api.ErrProof)
	want(t, "Verify", Verify(m, []int{0}, []int{0}), api.ErrProof)
	tr, _ := Transpose(m)
	want(t, "Transpose", tr, api.Matrix{Cols: 4, Rows: [][]int{{0, 2}, {0, 1}, {1, 2}, {3}}})
	v, _ := Apply(m, []int{1, 3})
	want(t, "Apply", v, []int{0, 1, 3})
}

func TestErrors(t *testing.T) {
	good := api.Matrix{Cols: 2, Rows: [][]int{{0}, {1}}}
	for _, x := range []struct {
		m api.Matrix
		e api.Errno
	}{
		{api.Matrix{Cols: -1, Rows: make([][]int, 4097)}, api.ErrRange}, {api.Matrix{Cols: 4097}, api.ErrRange}, {api.Matrix{Rows: make([][]int, 4097)}, api.ErrMany},
		{api.Matrix{Cols: 2, Rows: [][]int{{1}, {0, 2}}}, api.ErrRange}, {api.Matrix{Cols: 2, Rows: [][]int{{1, 1}, {7}}}, api.ErrOrder}, {api.Matrix{Cols: 2, Rows: [][]int{{-1}}}, api.ErrRange},
	} {
		want(t, "Check", Check(x.m), x.e)
		for _, pair := range [][2]api.Matrix{{x.m, good}, {good, x.m}} {
			_, e := Add(pair[0], pair[1])
			want(t, "Add", e, x.e)
			_, e = Multiply(pair[0], pair[1])
			want(t, "Multiply", e, x.e)
		}
		_, e := Transpose(x.m)
		want(t, "Transpose", e, x.e)
		_, e = Apply(x.m, []int{9, 9})
		want(t, "Apply", e, x.e)
		_, e = Echelon(x.m)
		want(t, "Echelon", e, x.e)
		_, e = Rank(x.m)
		want(t, "Rank", e, x.e)
		_, e = Kernel(x.m)
		want(t, "Kernel", e, x.e)
		_, _, _, e = Solve(x.m, []int{9, 9})
		want(t, "Solve", e, x.e)
		want(t, "Verify", Verify(x.m, nil, nil), x.e)
	}
	_, e := Add(good, api.Matrix{Cols: 2})
	want(t, "Add", e, api.ErrShape)
	_, e = Add(good, api.Matrix{Cols: 3, Rows: [][]int{{}, {}}})
	want(t, "Add", e, api.ErrShape)
	_, e = Multiply(good, api.Matrix{Cols: 2})
	want(t, "Multiply", e, api.ErrShape)
	for _, x := range []struct {
		v []int
		e api.Errno
	}{{[]int{2}, api.ErrRange}, {[]int{1, 0}, api.ErrOrder}, {[]int{1, 1, 5}, api.ErrOrder}, {[]int{-1}, api.ErrRange}} {
		_, e = Apply(good, x.v)
		want(t, "Apply", e, x.e)
		_, _, _, e = Solve(good, x.v)
		want(t, "Solve", e, x.e)
		want(t, "Verify", Verify(good, x.v, []int{9}), x.e)
		want(t, "Verify", Verify(good, nil, x.v), x.e)
	}
	want(t, "Verify", Verify(good, nil, nil), api.ErrProof)
	empty, e := Kernel(api.Matrix{})
	want(t, "Kernel", []any{empty, e}, []any{api.Matrix{}, api.OK})
}

// small returns a matrix that a number describes.
func small(rows, cols, bits int) api.Matrix {
	m := api.Matrix{Cols: cols}
	for i := range rows {
		m.Rows = append(m.Rows, vector(bits>>(i*cols), cols))
	}
	return m
}

func vector(bits, length int) []int {
	var v []int
	for c := range length {
		if bits>>c&1 == 1 {
			v = append(v, c)
		}
	}
	return v
}

func TestConsequences(t *testing.T) {
	for bits := range 1 << 12 {
		m := small(4, 3, bits)
		tr, _ := Transpose(m)
		rank, _ := Rank(m)
		other, _ := Rank(tr)
		want(t, "rank of the transpose", other, rank)
		kernel, _ := Kernel(m)
		want(t, "rank and kernel", rank+len(kernel.Rows), 3)
		for _, row := range kernel.Rows {
			image, _ := Apply(m, row)
			want(t, "image of the kernel", image, []int{})
		}
		echelon, _ := Echelon(m)
		again, _ := Echelon(echelon)
		want(t, "Echelon", again, echelon)
		checkEchelon(t, m, echelon)
		b := vector(bits*7%16, 4)
		x, y, ok, _ := Solve(m, b)
		image, _ := Apply(m, x)
		want(t, "solution", ok, slices.Equal(image, b) && len(y) == 0)
		want(t, "refutation", Verify(m, b, y) == api.OK, !ok)
		n := small(3, 4, bits*2654435761>>7)
		product, _ := Multiply(m, n)
		product, _ = Transpose(product)
		nt, _ := Transpose(n)
		right, _ := Multiply(nt, tr)
		want(t, "product of transposes", product, right)
	}
}

func checkEchelon(t *testing.T, m, echelon api.Matrix) {
	for i, row := range echelon.Rows {
		if len(row) == 0 || i > 0 && row[0] <= echelon.Rows[i-1][0] {
			t.Errorf("Echelon of %v: %v", m, echelon)
		}
		for k, other := range echelon.Rows {
			if k != i && slices.Contains(other, row[0]) {
				t.Errorf("Echelon of %v: %v", m, echelon)
			}
		}
	}
	both := api.Matrix{Cols: m.Cols, Rows: append(slices.Clone(m.Rows), echelon.Rows...)}
	rank, _ := Rank(both)
	want(t, "same sums", rank, len(echelon.Rows))
}

func TestLarge(t *testing.T) {
	m := api.Matrix{Cols: 300}
	for i := range 300 {
		m.Rows = append(m.Rows, []int{min(i, (i+1)%300), max(i, (i+1)%300)})
	}
	_, y, ok, _ := Solve(m, []int{17})
	want(t, "Solve", []any{len(y), ok, Verify(m, []int{17}, y)}, []any{300, false, api.OK})
	kernel, _ := Kernel(m)
	want(t, "Kernel", []int{len(kernel.Rows), len(kernel.Rows[0])}, []int{1, 300})
	sum, _ := Add(m, m)
	rank, _ := Rank(sum)
	want(t, "Rank", []int{rank, len(sum.Rows)}, []int{0, 300})
}
