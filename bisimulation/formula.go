package bisimulation

import (
	"slices"

	"roundtable/api"
	"roundtable/execution"
	"roundtable/partition"
	"roundtable/verified"
)

// answer is a formula with the points at which it is true, and its size; none if no formula is small enough.
type answer struct {
	f            api.Formula
	set          []bool
	nodes, depth int
	none         bool
}

// finder finds formulas that distinguish points.
type finder struct {
	s       api.System
	space   *verified.Space
	x       Structure
	steps   [][]int
	members [][][]int
	known   map[[2]int]answer
}

// Formula returns a formula that is true at a point, and not at another one.
func Formula(s api.System, a, b int) (api.Formula, bool, api.Errno) {
	if e := execution.Verify(s); e != api.OK {
		return api.Formula{}, false, e
	}
	x := of(s)
	if a < 0 || a >= len(x.Atoms) || b < 0 || b >= len(x.Atoms) {
		return api.Formula{}, false, api.ErrNone
	}
	f := finder{s: s, space: verified.NewSpace(s), x: x, known: map[[2]int]answer{}}
	for labels := range steps(x) {
		f.steps = append(f.steps, labels)
	}
	last := f.steps[len(f.steps)-1]
	if last[a] == last[b] {
		return api.Formula{}, false, api.OK
	}
	for _, told := range x.Agents {
		classes, _ := partition.Classes(told)
		f.members = append(f.members, classes)
	}
	found := f.distinguish(a, b)
	if found.none {
		return api.Formula{}, false, api.ErrUnknown
	}
	return copied(found.f), true, api.OK
}

// copied returns a formula without parts that share memory.
func copied(f api.Formula) api.Formula {
	args := f.Args
	f.Args = nil
	for _, arg := range args {
		f.Args = append(f.Args, copied(arg))
	}
	return f
}

// rank returns the number of the first partition that tells two points of different classes apart.
func (f finder) rank(a, b int) int {
	return slices.IndexFunc(f.steps, func(labels []int) bool { return labels[a] != labels[b] })
}

// distinguish returns a formula that is true at a and not at b, which are in different classes. The formulas of which it is made distinguish points of lower ranks.
func (f finder) distinguish(a, b int) answer {
	last := f.steps[len(f.steps)-1]
	// Points of the same class satisfy the same formulas.
	key := [2]int{last[a], last[b]}
	if known, ok := f.known[key]; ok {
		return known
	}
	found := answer{none: true}
	if m := f.rank(a, b); m == 0 {
		found = f.literal(a, b)
	} else {
		found = f.operator(a, b, f.steps[m-1])
	}
	f.known[key] = found
	return found
}

// operator returns a formula that is true at a and not at b, which lead to different labels.
func (f finder) operator(a, b int, labels []int) answer {
	if next, other := f.x.Next[a], f.x.Next[b]; next >= 0 && labels[next] != labels[other] {
		if found := f.next(f.distinguish(next, other)); !found.none {
			return found
		}
	}
	for p := range f.x.Agents {
		if found := f.possible(p, a, b, labels); !found.none {
			return found
		}
		// What p considers possible at b only, it excludes at a.
		if found := f.not(f.possible(p, b, a, labels)); !found.none {
			return found
		}
	}
	return answer{none: true}
}

// possible returns a formula that says that p considers something possible, which it does at a and not at b.
func (f finder) possible(p, a, b int, labels []int) answer {
	told := f.x.Agents[p]
	others := representatives(f.members[p][told[b]], labels)
	for _, point := range representatives(f.members[p][told[a]], labels) {
		if slices.ContainsFunc(others, func(other int) bool { return labels[other] == labels[point] }) {
			continue
		}
		all := answer{none: true}
		for i, other := range others {
			switch {
			case i == 0:
				all = f.distinguish(point, other)
			case all.none:
			case all.set[other]:
				all = f.and(all, f.distinguish(point, other))
			}
		}
		return f.not(f.knows(p, f.not(all)))
	}
	return answer{none: true}
}

// representatives returns a point for each label that occurs in a class.
func representatives(class, labels []int) []int {
	found := map[int]bool{}
	var l []int
	for _, point := range class {
		if !found[labels[point]] {
			found[labels[point]] = true
			l = append(l, point)
		}
	}
	return l
}

// literal returns an atom, or its negation, that is true at a and not at b, which differ in their atoms.
func (f finder) literal(a, b int) answer {
	k := a % f.space.PerExecution
	atoms := []api.Formula{{Op: api.FormulaAt, Value: k}}
	for p := range f.s.Problem.Task.N {
		input := verified.Case(f.s, a/f.space.PerExecution).In[p]
		atoms = append(atoms, api.Formula{Op: api.FormulaIn, Proc: p, Value: input}, api.Formula{Op: api.FormulaFaulty, Proc: p})
		for q := range f.s.Problem.Task.N {
			atoms = append(atoms, api.Formula{Op: api.FormulaHeard, Proc: p, Other: q})
		}
	}
	for _, atom := range atoms {
		set := f.space.Atom(api.Rule{}, atom)
		if set[a] == set[b] {
			continue
		}
		found := answer{f: atom, set: set, nodes: 1, depth: 1}
		if !set[a] {
			found = f.not(found)
		}
		return found
	}
	return answer{none: true}
}

// wrap returns the answer of an operator with one Arg.
func (f finder) wrap(g api.Formula, below answer, set func([]bool) []bool) answer {
	if below.none || below.nodes == api.MaxNodes || below.depth == api.MaxDepth {
		return answer{none: true}
	}
	g.Args = []api.Formula{below.f}
	return answer{f: g, set: set(below.set), nodes: below.nodes + 1, depth: below.depth + 1}
}

func (f finder) next(below answer) answer {
	return f.wrap(api.Formula{Op: api.FormulaNext}, below, f.space.Next)
}

func (f finder) knows(p int, below answer) answer {
	return f.wrap(api.Formula{Op: api.FormulaKnows, Proc: p}, below, func(set []bool) []bool { return f.space.Knows(p, set) })
}

func (f finder) not(below answer) answer {
	if !below.none && below.f.Op == api.FormulaNot {
		return answer{f: below.f.Args[0], set: negation(below.set), nodes: below.nodes - 1, depth: below.depth - 1}
	}
	return f.wrap(api.Formula{Op: api.FormulaNot}, below, negation)
}

func (f finder) and(a, b answer) answer {
	nodes, depth := a.nodes+b.nodes+1, max(a.depth, b.depth)+1
	if a.none || b.none || nodes > api.MaxNodes || depth > api.MaxDepth {
		return answer{none: true}
	}
	set := make([]bool, len(a.set))
	for point := range set {
		set[point] = a.set[point] && b.set[point]
	}
	return answer{f: api.Formula{Op: api.FormulaAnd, Args: []api.Formula{a.f, b.f}}, set: set, nodes: nodes, depth: depth}
}

func negation(set []bool) []bool {
	l := make([]bool, len(set))
	for point, is := range set {
		l[point] = !is
	}
	return l
}
