// Package procset implements layer 1: sets of processes.
package procset

import (
	"iter"
	"math/bits"
	"strconv"
	"strings"

	"roundtable/api"
)

// Check returns OK for a set of n processes.
func Check(n, set int) api.Errno {
	if n < 1 || n > api.MaxProcs {
		return api.ErrArg
	}
	if set < 0 || set >= 1<<n {
		return api.ErrRange
	}
	return api.OK
}

// All returns the set of all n processes.
func All(n int) (int, api.Errno) {
	if e := Check(n, 0); e != api.OK {
		return 0, e
	}
	return 1<<n - 1, api.OK
}

// Members returns the elements of a set in ascending order.
func Members(n, set int) ([]int, api.Errno) {
	if e := Check(n, set); e != api.OK {
		return nil, e
	}
	return collect(elements(set)), api.OK
}

// Of returns the set of the elements of a list.
func Of(n int, l []int) (int, api.Errno) {
	if e := Check(n, 0); e != api.OK {
		return 0, e
	}
	set := 0
	for _, p := range l {
		if p < 0 || p >= n {
			return 0, api.ErrRange
		}
		if set>>p&1 == 1 {
			return 0, api.ErrTwice
		}
		set |= 1 << p
	}
	return set, api.OK
}

// Size returns the number of elements.
func Size(n, set int) (int, api.Errno) {
	if e := Check(n, set); e != api.OK {
		return 0, e
	}
	return bits.OnesCount(uint(set)), api.OK
}

// Least returns the least element.
func Least(n, set int) (int, api.Errno) {
	if e := Check(n, set); e != api.OK {
		return 0, e
	}
	for p := range elements(set) {
		return p, api.OK
	}
	return 0, api.ErrEmpty
}

// Subsets returns all subsets of a set in ascending order.
func Subsets(n, set int) ([]int, api.Errno) {
	if e := Check(n, set); e != api.OK {
		return nil, e
	}
	return collect(subsets(set)), api.OK
}

// Choose returns the subsets with k elements in ascending order.
func Choose(n, set, k int) ([]int, api.Errno) {
	size, e := Size(n, set)
	if e != api.OK {
		return nil, e
	}
	if k < 0 || k > size {
		return nil, api.ErrRange
	}
	var l []int
	for sub := range subsets(set) {
		if bits.OnesCount(uint(sub)) == k {
			l = append(l, sub)
		}
	}
	return l, api.OK
}

// Format returns the text of a set.
func Format(n, set int) (string, api.Errno) {
	if e := Check(n, set); e != api.OK {
		return "", e
	}
	var parts []string
	for p := range elements(set) {
		parts = append(parts, strconv.Itoa(p))
	}
	return "{" + strings.Join(parts, ",") + "}", api.OK
}

// Parse returns the set with a text.
func Parse(n int, s string) (int, api.Errno) {
	if e := Check(n, 0); e != api.OK {
		return 0, e
	}
	if len(s) > api.MaxName {
		return 0, api.ErrLong
	}
	l, ok := digits(s)
	if !ok {
		return 0, api.ErrSyntax
	}
	set, e := Of(n, l)
	if e != api.OK {
		return 0, e
	}
	for i := 1; i < len(l); i++ {
		if l[i] < l[i-1] {
			return 0, api.ErrOrder
		}
	}
	return set, api.OK
}

// digits reads the numbers of one digit between { and }.
func digits(s string) ([]int, bool) {
	if len(s) < 2 || s[0] != '{' || s[len(s)-1] != '}' {
		return nil, false
	}
	inner := s[1 : len(s)-1]
	if inner == "" {
		return nil, true
	}
	var l []int
	for _, part := range strings.Split(inner, ",") {
		if len(part) != 1 || part[0] < '0' || part[0] > '9' {
			return nil, false
		}
		l = append(l, int(part[0]-'0'))
	}
	return l, true
}

// elements yields the elements of a set in ascending order.
func elements(set int) iter.Seq[int] {
	return func(yield func(int) bool) {
		for rest := uint(set); rest != 0; rest &= rest - 1 {
			if !yield(bits.TrailingZeros(rest)) {
				return
			}
		}
	}
}

// subsets yields the subsets of a set in ascending order.
func subsets(set int) iter.Seq[int] {
	return func(yield func(int) bool) {
		for sub := 0; sub <= set; sub++ {
			if sub&^set == 0 && !yield(sub) {
				return
			}
		}
	}
}

// collect returns a list of what an iterator yields.
func collect[T any](seq iter.Seq[T]) []T {
	var l []T
	for x := range seq {
		l = append(l, x)
	}
	return l
}
