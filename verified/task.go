// Package verified computes with structures that have been checked before: the layers call it behind the checks of their arguments, so that these are made once.
package verified

import (
	"slices"

	"roundtable/api"
)

// Allowed returns the allowed vectors of a case, as they are in the case.
func Allowed(c api.Case, faulty int) [][]int {
	if faulty == 0 && len(c.Calm) > 0 {
		return c.Calm
	}
	return c.Out
}

// Agrees reports whether a vector has the values of some decisions at the processes of a set.
func Agrees(v, decisions []int, set int) bool {
	for p, x := range v {
		if set>>p&1 == 1 && decisions[p] != x {
			return false
		}
	}
	return true
}

// Permitted reports whether decisions of a case are permitted.
func Permitted(c api.Case, faulty int, decisions []int) bool {
	obliged := (1<<len(decisions) - 1) &^ faulty
	return obliged == 0 || slices.ContainsFunc(Allowed(c, faulty), func(v []int) bool { return Agrees(v, decisions, obliged) })
}

// Clone returns a copy of lists.
func Clone[T any](l [][]T) [][]T {
	var copied [][]T
	for _, x := range l {
		copied = append(copied, slices.Clone(x))
	}
	return copied
}

// CloneTask returns a copy of a task.
func CloneTask(t api.Task) api.Task {
	cases := make([]api.Case, len(t.Cases))
	for i, c := range t.Cases {
		cases[i] = api.Case{In: slices.Clone(c.In), Out: Clone(c.Out), Calm: Clone(c.Calm)}
	}
	t.Cases = cases
	return t
}
