package verified

import (
	"iter"

	"roundtable/api"
)

// Space evaluates sets of points of a system.
type Space struct {
	Points
	classes map[int][]int
}

// NewSpace returns the space of the points of a system.
func NewSpace(s api.System) *Space {
	return &Space{NewPoints(s), map[int][]int{}}
}

// ClassesOf returns the partition of the points that a process cannot tell apart.
func (x *Space) ClassesOf(p int) []int {
	if x.classes[p] == nil {
		x.classes[p] = x.Classes(p)
	}
	return x.classes[p]
}

// group yields the processes of a group.
func (x *Space) group(set int) iter.Seq[int] {
	return func(yield func(int) bool) {
		for p := range x.s.Problem.Task.N {
			if set>>p&1 == 1 && !yield(p) {
				return
			}
		}
	}
}

// kept returns the points whose whole class is in a set.
func kept(labels []int, set []bool) []bool {
	broken := make([]bool, len(labels))
	for point, label := range labels {
		if !set[point] {
			broken[label] = true
		}
	}
	whole := make([]bool, len(labels))
	for point, label := range labels {
		whole[point] = !broken[label]
	}
	return whole
}

// Knows returns the points at which a process knows a set.
func (x *Space) Knows(p int, set []bool) []bool { return kept(x.ClassesOf(p), set) }

// Everyone returns the points at which each process of a group knows a set.
func (x *Space) Everyone(group int, set []bool) []bool {
	all := x.full()
	for p := range x.group(group) {
		all = both(all, x.Knows(p, set))
	}
	return all
}

// Distributed returns the points at which a set is distributed knowledge of a group.
func (x *Space) Distributed(group int, set []bool) []bool { return kept(x.Together(group), set) }

// Common returns the common knowledge of a set.
func (x *Space) Common(group int, set []bool) []bool {
	if group == 0 {
		return x.full()
	}
	return kept(x.Reach(group), set)
}

// Radius returns for each point the least number of steps, each by a process of a group that cannot tell its both ends apart, to a point that is not in a set; -1 if there is none.
func (x *Space) Radius(group int, set []bool) []int {
	radius := make([]int, x.Count())
	var queue []int
	for point := range radius {
		radius[point] = -1
		if !set[point] {
			radius[point] = 0
			queue = append(queue, point)
		}
	}
	expanded := map[[2]int]bool{}
	members := map[int][][]int{}
	for p := range x.group(group) {
		members[p] = x.Members(p)
	}
	for i := 0; i < len(queue); i++ {
		for p := range x.group(group) {
			label := x.ClassesOf(p)[queue[i]]
			if expanded[[2]int{p, label}] {
				continue
			}
			expanded[[2]int{p, label}] = true
			for _, point := range members[p][label] {
				if radius[point] < 0 {
					radius[point] = radius[queue[i]] + 1
					queue = append(queue, point)
				}
			}
		}
	}
	return radius
}

// Members returns the points of each class of a process.
func (x *Space) Members(p int) [][]int {
	members := make([][]int, x.Count())
	for point, label := range x.ClassesOf(p) {
		members[label] = append(members[label], point)
	}
	return members
}

// Next returns the points whose next point is in a set.
func (x *Space) Next(set []bool) []bool {
	next := make([]bool, len(set))
	for point, last := range x.backwards() {
		next[point] = !last && set[point+1]
	}
	return next
}

// Always returns the points from which on a set holds.
func (x *Space) Always(set []bool) []bool {
	always := make([]bool, len(set))
	for point, last := range x.backwards() {
		always[point] = set[point] && (last || always[point+1])
	}
	return always
}

// Eventually returns the points at which a set holds, or will hold.
func (x *Space) Eventually(set []bool) []bool { return x.Until(x.full(), set) }

// Until returns the points at which b holds, or will hold, and a until then.
func (x *Space) Until(a, b []bool) []bool {
	until := make([]bool, len(b))
	for point, last := range x.backwards() {
		until[point] = b[point] || a[point] && !last && until[point+1]
	}
	return until
}

// backwards yields the points from the last one down, and whether they are the last ones of their executions.
func (x *Space) backwards() iter.Seq2[int, bool] {
	return func(yield func(int, bool) bool) {
		for point := x.Count() - 1; point >= 0; point-- {
			if !yield(point, point%x.PerExecution == x.PerExecution-1) {
				return
			}
		}
	}
}

// full returns the set of all points.
func (x *Space) full() []bool { return negation(make([]bool, x.Count())) }

func negation(set []bool) []bool {
	l := make([]bool, len(set))
	for point, is := range set {
		l[point] = !is
	}
	return l
}

func both(a, b []bool) []bool {
	l := make([]bool, len(a))
	for point := range l {
		l[point] = a[point] && b[point]
	}
	return l
}

// Eval returns the set of a well-formed formula.
func (x *Space) Eval(rule api.Rule, f api.Formula) []bool {
	set := func(i int) []bool { return x.Eval(rule, f.Args[i]) }
	unary := func(operator func([]bool) []bool) func() []bool {
		return func() []bool { return operator(set(0)) }
	}
	grouped := func(operator func(int, []bool) []bool) func() []bool {
		return func() []bool { return operator(f.Group, set(0)) }
	}
	operators := map[int]func() []bool{
		api.FormulaNot:         unary(negation),
		api.FormulaAnd:         func() []bool { return both(set(0), set(1)) },
		api.FormulaOr:          func() []bool { return negation(both(negation(set(0)), negation(set(1)))) },
		api.FormulaKnows:       func() []bool { return x.Knows(f.Proc, set(0)) },
		api.FormulaEveryone:    grouped(x.Everyone),
		api.FormulaDistributed: grouped(x.Distributed),
		api.FormulaCommon:      grouped(x.Common),
		api.FormulaNext:        unary(x.Next),
		api.FormulaAlways:      unary(x.Always),
		api.FormulaEventually:  unary(x.Eventually),
		api.FormulaUntil:       func() []bool { return x.Until(set(0), set(1)) },
	}
	if operator, ok := operators[f.Op]; ok {
		return operator()
	}
	return x.Atom(rule, f)
}
