// Package permutation implements layer 2: permutations of processes.
package permutation

import (
	"iter"
	"slices"
	"strconv"

	"roundtable/api"
)

// Check returns OK for permutations.
func Check(a []int) api.Errno {
	if len(a) < 1 || len(a) > api.MaxProcs {
		return api.ErrRange
	}
	for i, x := range a {
		if x < 0 || x >= len(a) {
			return api.ErrRange
		}
		if slices.Contains(a[:i], x) {
			return api.ErrTwice
		}
	}
	return api.OK
}

// Identity returns the identity of n processes.
func Identity(n int) ([]int, api.Errno) {
	if n < 1 || n > api.MaxProcs {
		return nil, api.ErrRange
	}
	a := make([]int, n)
	for p := range a {
		a[p] = p
	}
	return a, api.OK
}

// Compose returns the permutation that first does b, then a.
func Compose(a, b []int) ([]int, api.Errno) {
	if e := Check(a); e != api.OK {
		return nil, e
	}
	if e := Check(b); e != api.OK {
		return nil, e
	}
	if len(a) != len(b) {
		return nil, api.ErrMismatch
	}
	return after(a, b), api.OK
}

// Inverse returns the inverse.
func Inverse(a []int) ([]int, api.Errno) {
	if e := Check(a); e != api.OK {
		return nil, e
	}
	b := make([]int, len(a))
	for p, x := range a {
		b[x] = p
	}
	return b, api.OK
}

// Order returns the least number of compositions that is the identity.
func Order(a []int) (int, api.Errno) {
	if e := Check(a); e != api.OK {
		return 0, e
	}
	order := 1
	for b := a; !slices.IsSorted(b); b = after(a, b) {
		order++
	}
	return order, api.OK
}

// Odd reports whether the number of inversions is odd.
func Odd(a []int) (bool, api.Errno) {
	if e := Check(a); e != api.OK {
		return false, e
	}
	odd := false
	for p := range a {
		for q := p + 1; q < len(a); q++ {
			odd = odd != (a[p] > a[q])
		}
	}
	return odd, api.OK
}

// All returns all permutations of n processes in lexicographic order.
func All(n int) ([][]int, api.Errno) {
	if n < 1 || n > api.MaxProcs {
		return nil, api.ErrRange
	}
	l := [][]int{{}}
	for range n {
		var longer [][]int
		for _, a := range l {
			for x := range n {
				if !slices.Contains(a, x) {
					longer = append(longer, append(slices.Clone(a), x))
				}
			}
		}
		l = longer
	}
	return l, api.OK
}

// Set returns the set of the images of the elements of a set.
func Set(a []int, set int) (int, api.Errno) {
	if e := Check(a); e != api.OK {
		return 0, e
	}
	if set < 0 || set >= 1<<len(a) {
		return 0, api.ErrRange
	}
	image := 0
	for p, x := range a {
		image |= (set >> p & 1) << x
	}
	return image, api.OK
}

// Vector returns the vector whose element with the index a[p] is v[p].
func Vector(a, v []int) ([]int, api.Errno) {
	if e := Check(a); e != api.OK {
		return nil, e
	}
	if len(v) != len(a) {
		return nil, api.ErrShape
	}
	image := make([]int, len(v))
	for p, x := range a {
		image[x] = v[p]
	}
	return image, api.OK
}

// Generate returns the generated group in lexicographic order.
func Generate(n int, l [][]int) ([][]int, api.Errno) {
	one, e := Identity(n)
	if e != api.OK {
		return nil, e
	}
	if len(l) > api.MaxList {
		return nil, api.ErrMany
	}
	for _, a := range l {
		if e := Check(a); e != api.OK {
			return nil, e
		}
		if len(a) != n {
			return nil, api.ErrMismatch
		}
	}
	group := [][]int{one}
	found := map[[api.MaxProcs]int]bool{key(one): true}
	for i := 0; i < len(group); i++ {
		for _, a := range l {
			b := after(a, group[i])
			if !found[key(b)] {
				found[key(b)] = true
				group = append(group, b)
			}
		}
	}
	slices.SortFunc(group, slices.Compare[[]int])
	return group, api.OK
}

// Format returns the text of a permutation.
func Format(a []int) (string, api.Errno) {
	if e := Check(a); e != api.OK {
		return "", e
	}
	s := ""
	for cycle := range cycles(a) {
		for i, p := range cycle {
			if i == 0 {
				s += "("
			} else {
				s += " "
			}
			s += strconv.Itoa(p)
		}
		s += ")"
	}
	if s == "" {
		s = "()"
	}
	return s, api.OK
}

// Parse returns the permutation of n processes that has a text.
func Parse(n int, s string) ([]int, api.Errno) {
	l, e := All(n)
	if e != api.OK {
		return nil, e
	}
	if len(s) > api.MaxName {
		return nil, api.ErrLong
	}
	for _, a := range l {
		if text, _ := Format(a); text == s {
			return a, api.OK
		}
	}
	return nil, api.ErrSyntax
}

// after returns the composition of two permutations of the same size.
func after(a, b []int) []int {
	c := make([]int, len(b))
	for p, x := range b {
		c[p] = a[x]
	}
	return c
}

// key returns a permutation in a form that maps accept as a key.
func key(a []int) [api.MaxProcs]int {
	var k [api.MaxProcs]int
	copy(k[:], a)
	return k
}

// cycles yields the cycles with at least two processes in the order of their least processes.
func cycles(a []int) iter.Seq[[]int] {
	return func(yield func([]int) bool) {
		seen := make([]bool, len(a))
		for p := range a {
			var cycle []int
			for q := p; !seen[q]; q = a[q] {
				seen[q] = true
				cycle = append(cycle, q)
			}
			if len(cycle) > 1 && !yield(cycle) {
				return
			}
		}
	}
}
