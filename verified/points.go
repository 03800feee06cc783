package verified

import (
	"iter"
	"slices"

	"roundtable/api"
	"roundtable/partition"
)

// Points are the points of a system: that of the execution e behind k rounds has the number e * PerExecution + k.
type Points struct {
	PerExecution int
	s            api.System
	inputs       [][]int
}

// NewPoints returns the points of a system.
func NewPoints(s api.System) Points {
	return Points{s.Problem.Rounds + 1, s, Inputs(s.Table)}
}

// Count returns the number of points.
func (x Points) Count() int { return len(x.s.Executions) * x.PerExecution }

// All yields the execution and the number of rounds of each point, in order.
func (x Points) All() iter.Seq2[int, int] {
	return func(yield func(e, k int) bool) {
		for e := range x.s.Executions {
			for k := range x.PerExecution {
				if !yield(e, k) {
					return
				}
			}
		}
	}
}

// views returns the view of a process at each point.
func (x Points) views(p int) []int {
	l := make([]int, 0, x.Count())
	for e, k := range x.All() {
		l = append(l, x.s.Executions[e].Views[k][p])
	}
	return l
}

// Classes returns the partition of the points that a process cannot tell apart.
func (x Points) Classes(p int) []int {
	l, _ := partition.Of(x.views(p))
	return l
}

// Together returns the partition of the points that a group cannot tell apart together.
func (x Points) Together(group int) []int {
	l := make([]int, x.Count())
	for p := range x.s.Problem.Task.N {
		if group>>p&1 == 1 {
			l, _ = partition.Refine(l, x.views(p))
		}
	}
	return l
}

// Reach returns the partition of the points that are connected for a group.
func (x Points) Reach(group int) []int {
	l := make([]int, x.Count())
	for point := range l {
		l[point] = point
	}
	for p := range x.s.Problem.Task.N {
		if group>>p&1 == 1 {
			l, _ = partition.Join(l, x.Classes(p))
		}
	}
	return l
}

// Atom returns for each point whether an atom is true.
func (x Points) Atom(rule api.Rule, f api.Formula) []bool {
	holds := x.atoms(rule, f)[f.Op]
	set := make([]bool, 0, x.Count())
	for e, k := range x.All() {
		set = append(set, holds(e, k))
	}
	return set
}

// atoms returns for each kind of atoms where it is true.
func (x Points) atoms(rule api.Rule, f api.Formula) map[int]func(e, k int) bool {
	view := func(e, k int) int { return x.s.Executions[e].Views[k][f.Proc] }
	return map[int]func(e, k int) bool{
		api.FormulaTrue:  func(e, k int) bool { return true },
		api.FormulaIn:    func(e, k int) bool { return Case(x.s, e).In[f.Proc] == f.Value },
		api.FormulaGiven: func(e, k int) bool { return slices.Contains(Case(x.s, e).In, f.Value) },
		api.FormulaHeard: func(e, k int) bool { return x.inputs[view(e, k)][f.Other] >= 0 },
		api.FormulaFaulty: func(e, k int) bool {
			return Faulty(x.s.Executions[e].Word[:k])>>f.Proc&1 == 1
		},
		api.FormulaDecided: func(e, k int) bool { return len(rule.Out) > 0 && rule.Out[view(e, k)] == f.Value },
		api.FormulaAt:      func(e, k int) bool { return k == f.Value },
	}
}
