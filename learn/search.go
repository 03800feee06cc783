// Package learn searches models of clauses: from each conflict it learns a clause that the clauses before imply by unit propagation.
package learn

import (
	"slices"

	"roundtable/api"
	"roundtable/watch"
)

// Few is the number of variables up to which no search is given up.
const Few = 20

// Search looks for models of the same clauses, under assumptions that may change; what it has learned remains.
type Search struct {
	engine  *watch.Engine
	vars    int
	first   int
	levels  []int
	level   []int
	marked  int
	order   *order
	bump    int
	phase   []int
	learned [][]int
	sources [][]int
	spread  []int
	active  []int
	last    []int
	failed  map[int]bool
	broken  bool
	out     map[int]bool
}

// New returns the search in all clauses but those that are left out.
func New(c api.Clauses, out map[int]bool) *Search {
	s := &Search{engine: watch.New(c.Vars), vars: c.Vars, first: len(c.List), level: make([]int, c.Vars+1), order: newOrder(c.Vars), bump: 1, phase: make([]int, c.Vars+1), failed: map[int]bool{}, out: out}
	for v := range s.phase {
		s.phase[v] = v
	}
	for i, clause := range c.List {
		s.engine.Add(clause)
		if !out[i] {
			for _, literal := range clause {
				s.order.raise(variable(literal), 1)
			}
		}
	}
	return s
}

func (s *Search) visible(clause int) bool { return !s.out[clause] }

// Run returns whether there is a model under assumptions, which are literals of different variables, or VerdictUnknown if the search is given up.
func (s *Search) Run(assumed []int) int {
	if s.broken {
		return api.VerdictNo
	}
	s.backtrack(0)
	clear(s.failed)
	if conflict := s.engine.Short(s.visible); conflict != watch.None {
		s.finish(conflict)
		return api.VerdictNo
	}
	verdict := api.VerdictNo
	conflicts, restart := 0, 1
search:
	for {
		if conflict := s.propagate(); conflict != watch.None {
			conflicts++
			switch {
			case len(s.levels) == 0:
				s.finish(conflict)
				break search
			case s.vars > Few && conflicts > api.MaxSteps:
				verdict = api.VerdictUnknown
				break search
			}
			s.learn(conflict)
			if conflicts%(64*luby(restart)) == 0 {
				restart++
				s.backtrack(0)
				s.reduce()
			}
			continue
		}
		literal := 0
		if k := len(s.levels); k < len(assumed) {
			literal = assumed[k]
			if s.engine.Value(literal) < 0 {
				s.explain(literal)
				break search
			}
		} else if literal = s.choose(); literal == 0 {
			verdict = api.VerdictYes
			break search
		}
		s.levels = append(s.levels, len(s.engine.Trail))
		if s.engine.Value(literal) == 0 {
			s.engine.Assign(literal, watch.None)
		}
	}
	return verdict
}

// propagate propagates, and notes the levels of all literals.
func (s *Search) propagate() int {
	conflict := s.engine.Propagate(s.visible)
	for ; s.marked < len(s.engine.Trail); s.marked++ {
		v := variable(s.engine.Trail[s.marked])
		k := len(s.levels)
		for k > 0 && s.levels[k-1] > s.marked {
			k--
		}
		s.level[v] = k
	}
	return conflict
}

// choose returns the open literal with the most conflicts of late, 0 if there is none.
func (s *Search) choose() int {
	for {
		v := s.order.pop()
		if v == 0 || s.engine.Value(v) == 0 {
			return s.phase[v]
		}
	}
}

// backtrack takes all levels back but the first ones.
func (s *Search) backtrack(levels int) {
	if levels >= len(s.levels) {
		return
	}
	length := s.levels[levels]
	for _, literal := range s.engine.Trail[length:] {
		s.phase[variable(literal)] = literal
		s.order.push(variable(literal))
	}
	s.engine.Undo(length)
	s.levels = s.levels[:levels]
	s.marked = min(s.marked, length)
}

// learn learns a clause from a conflict, and goes back to where it assigns a literal.
func (s *Search) learn(conflict int) {
	clause, sources := s.analyze(conflict)
	spread, back := s.levelsOf(clause), 0
	for i := 1; i < len(clause); i++ {
		if k := s.level[variable(clause[i])]; k > back {
			back = k
			clause[1], clause[i] = clause[i], clause[1]
		}
	}
	s.backtrack(back)
	s.learned = append(s.learned, ordered(clause))
	s.sources = append(s.sources, sources)
	s.spread = append(s.spread, spread)
	s.active = append(s.active, len(s.learned)-1)
	s.engine.Assign(clause[0], s.engine.Add(clause))
	s.bump += s.bump/16 + 1
	if s.bump > 1<<40 {
		s.bump >>= 30
		s.order.lower(30)
	}
}

// levelsOf returns how many levels the literals of a clause have.
func (s *Search) levelsOf(clause []int) int {
	different := map[int]bool{}
	for _, literal := range clause {
		different[s.level[variable(literal)]] = true
	}
	return len(different)
}

// reduce drops half of the learned clauses, if they are many: those whose literals have the most levels. They remain parts of the proof.
func (s *Search) reduce() {
	if len(s.active) < 4000 {
		return
	}
	slices.SortStableFunc(s.active, func(a, b int) int { return s.spread[a] - s.spread[b] })
	var kept []int
	for i, k := range s.active {
		if i < len(s.active)/2 || s.spread[k] <= 3 {
			kept = append(kept, k)
		} else {
			s.engine.Drop(s.first + k)
		}
	}
	s.active = kept
}

// analyze returns the clause that is learned from a conflict, with the literal that it will assign first, and the clauses of which it is made.
func (s *Search) analyze(conflict int) ([]int, []int) {
	clause, sources := []int{0}, []int{}
	seen := map[int]bool{}
	open := 0
	resolve := func(reason int) {
		sources = append(sources, reason)
		for _, literal := range s.engine.Clause(reason) {
			v := variable(literal)
			if seen[v] {
				continue
			}
			seen[v] = true
			s.order.raise(v, s.bump)
			switch s.level[v] {
			case 0:
				sources = s.roots(v, sources)
			case len(s.levels):
				open++
			default:
				clause = append(clause, literal)
			}
		}
	}
	resolve(conflict)
	for i := len(s.engine.Trail) - 1; ; i-- {
		literal := s.engine.Trail[i]
		v := variable(literal)
		if !seen[v] || s.level[v] < len(s.levels) {
			continue
		}
		open--
		if open == 0 {
			clause[0] = -literal
			return clause, sources
		}
		resolve(s.engine.Reason(v))
	}
}

// roots adds the clauses that assigned a variable without any decision.
func (s *Search) roots(v int, sources []int) []int {
	seen := map[int]bool{v: true}
	for queue := []int{v}; len(queue) > 0; queue = queue[1:] {
		reason := s.engine.Reason(queue[0])
		sources = append(sources, reason)
		for _, literal := range s.engine.Clause(reason) {
			if w := variable(literal); !seen[w] {
				seen[w] = true
				queue = append(queue, w)
			}
		}
	}
	return sources
}

// finish notes the clauses that led to a conflict without any decision.
func (s *Search) finish(conflict int) {
	s.broken = true
	s.last = []int{conflict}
	for _, literal := range s.engine.Clause(conflict) {
		s.last = s.roots(variable(literal), s.last)
	}
}

// explain notes the assumptions that make another one false, and the clauses that led to it.
func (s *Search) explain(literal int) {
	s.failed[literal] = true
	s.last = nil
	seen := map[int]bool{variable(literal): true}
	for queue := []int{variable(literal)}; len(queue) > 0; queue = queue[1:] {
		v := queue[0]
		reason := s.engine.Reason(v)
		if reason == watch.None {
			// Only assumptions were decided so far.
			s.failed[v*s.engine.Value(v)] = true
			continue
		}
		s.last = append(s.last, reason)
		for _, other := range s.engine.Clause(reason) {
			if w := variable(other); !seen[w] {
				seen[w] = true
				queue = append(queue, w)
			}
		}
	}
}

// Failed reports whether an assumption is one of those that no model contains together.
func (s *Search) Failed(literal int) bool { return s.failed[literal] }

// Model returns the model that was found.
func (s *Search) Model() []int {
	model := make([]int, s.vars)
	for i := range model {
		model[i] = i + 1
		if s.engine.Value(i+1) < 0 {
			model[i] = -i - 1
		}
	}
	return model
}

// Needed returns the clauses on which the last refutation depends.
func (s *Search) Needed() map[int]bool {
	needed := map[int]bool{}
	for _, i := range s.last {
		needed[i] = true
	}
	for k := len(s.learned) - 1; k >= 0; k-- {
		if needed[s.first+k] {
			for _, i := range s.sources[k] {
				needed[i] = true
			}
		}
	}
	return needed
}

// Proof returns the learned clauses on which the last refutation depends, and the empty clause. The assumptions, as clauses, belong to the clauses that it refutes.
func (s *Search) Proof() [][]int {
	needed := s.Needed()
	var proof [][]int
	for k, clause := range s.learned {
		if needed[s.first+k] {
			proof = append(proof, slices.Clone(clause))
		}
	}
	return append(proof, []int{})
}

// ordered returns a clause in the order of its variables.
func ordered(clause []int) []int {
	sorted := slices.Clone(clause)
	slices.SortFunc(sorted, func(a, b int) int { return variable(a) - variable(b) })
	return sorted
}

func variable(literal int) int { return max(literal, -literal) }

// luby returns the elements, from 1 on, of the sequence 1 1 2 1 1 2 4 1 1 2 ..
func luby(i int) int {
	k := 1
	for 1<<k-1 < i {
		k++
	}
	if i == 1<<k-1 {
		return 1 << (k - 1)
	}
	return luby(i - 1<<(k-1) + 1)
}
