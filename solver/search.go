package solver

import (
	"slices"

	"roundtable/api"
	"roundtable/watch"
)

// search looks for a model; from each conflict it learns a clause that the clauses before imply by propagation.
type search struct {
	engine   *watch.Engine
	vars     int
	first    int
	levels   []int
	level    []int
	marked   int
	activity []int
	bump     int
	phase    []int
	learned  [][]int
	sources  [][]int
	spread   []int
	active   []int
	last     []int
	failed   map[int]bool
	out      map[int]bool
}

// newSearch returns the search in all clauses but those that are left out.
func newSearch(c api.Clauses, out map[int]bool) *search {
	s := &search{engine: watch.New(c.Vars), vars: c.Vars, first: len(c.List), level: make([]int, c.Vars+1), activity: make([]int, c.Vars+1), bump: 1, phase: make([]int, c.Vars+1), failed: map[int]bool{}, out: out}
	for v := range s.phase {
		s.phase[v] = v
	}
	for i, clause := range c.List {
		s.engine.Add(clause)
		if !out[i] {
			for _, literal := range clause {
				s.activity[variable(literal)]++
			}
		}
	}
	return s
}

func (s *search) visible(clause int) bool { return !s.out[clause] }

// run returns whether there is a model under assumptions, or VerdictUnknown if the search is given up.
func (s *search) run(assumed []int) int {
	verdict := api.VerdictNo
	if conflict := s.engine.Short(s.visible); conflict != watch.None {
		s.finish(conflict)
		return verdict
	}
	conflicts, restart := 0, 1
search:
	for {
		if conflict := s.propagate(); conflict != watch.None {
			conflicts++
			switch {
			case len(s.levels) == 0:
				s.finish(conflict)
				break search
			case s.vars > few && conflicts > api.MaxSteps:
				verdict = api.VerdictUnknown
				break search
			}
			s.learn(conflict)
			if conflicts%(64*luby(restart)) == 0 {
				restart++
				s.backtrack(0)
				s.reduce()
			}
			continue
		}
		literal := 0
		if k := len(s.levels); k < len(assumed) {
			literal = assumed[k]
			if s.engine.Value(literal) < 0 {
				s.explain(literal)
				break search
			}
		} else if literal = s.choose(); literal == 0 {
			verdict = api.VerdictYes
			break search
		}
		s.levels = append(s.levels, len(s.engine.Trail))
		if s.engine.Value(literal) == 0 {
			s.engine.Assign(literal, watch.None)
		}
	}
	return verdict
}

// propagate propagates, and notes the levels of all literals.
func (s *search) propagate() int {
	conflict := s.engine.Propagate(s.visible)
	for ; s.marked < len(s.engine.Trail); s.marked++ {
		v := variable(s.engine.Trail[s.marked])
		k := len(s.levels)
		for k > 0 && s.levels[k-1] > s.marked {
			k--
		}
		s.level[v] = k
	}
	return conflict
}

// choose returns the open literal with the most conflicts of late, 0 if there is none.
func (s *search) choose() int {
	best := 0
	for v := 1; v <= s.vars; v++ {
		if s.engine.Value(v) == 0 && (best == 0 || s.activity[v] > s.activity[best]) {
			best = v
		}
	}
	return s.phase[best]
}

// backtrack takes all levels back but the first ones.
func (s *search) backtrack(levels int) {
	if levels >= len(s.levels) {
		return
	}
	length := s.levels[levels]
	for _, literal := range s.engine.Trail[length:] {
		s.phase[variable(literal)] = literal
	}
	s.engine.Undo(length)
	s.levels = s.levels[:levels]
	s.marked = min(s.marked, length)
}

// learn learns a clause from a conflict, and goes back to where it assigns a literal.
func (s *search) learn(conflict int) {
	clause, sources := s.analyze(conflict)
	spread, back := s.levelsOf(clause), 0
	for i := 1; i < len(clause); i++ {
		if k := s.level[variable(clause[i])]; k > back {
			back = k
			clause[1], clause[i] = clause[i], clause[1]
		}
	}
	s.backtrack(back)
	s.learned = append(s.learned, ordered(clause))
	s.sources = append(s.sources, sources)
	s.spread = append(s.spread, spread)
	s.active = append(s.active, len(s.learned)-1)
	s.engine.Assign(clause[0], s.engine.Add(clause))
	s.bump += s.bump/16 + 1
	if s.bump > 1<<40 {
		s.bump >>= 30
		for v := range s.activity {
			s.activity[v] >>= 30
		}
	}
}

// levelsOf returns how many levels the literals of a clause have.
func (s *search) levelsOf(clause []int) int {
	different := map[int]bool{}
	for _, literal := range clause {
		different[s.level[variable(literal)]] = true
	}
	return len(different)
}

// reduce drops half of the learned clauses, if they are many: those whose literals have the most levels. They remain parts of the proof.
func (s *search) reduce() {
	if len(s.active) < 4000 {
		return
	}
	slices.SortStableFunc(s.active, func(a, b int) int { return s.spread[a] - s.spread[b] })
	var kept []int
	for i, k := range s.active {
		if i < len(s.active)/2 || s.spread[k] <= 3 {
			kept = append(kept, k)
		} else {
			s.engine.Drop(s.first + k)
		}
	}
	s.active = kept
}

// analyze returns the clause that is learned from a conflict, with the literal that it will assign first, and the clauses of which it is made.
func (s *search) analyze(conflict int) ([]int, []int) {
	clause, sources := []int{0}, []int{}
	seen := map[int]bool{}
	open := 0
	resolve := func(reason int) {
		sources = append(sources, reason)
		for _, literal := range s.engine.Clause(reason) {
			v := variable(literal)
			if seen[v] {
				continue
			}
			seen[v] = true
			s.activity[v] += s.bump
			switch s.level[v] {
			case 0:
				sources = s.roots(v, sources)
			case len(s.levels):
				open++
			default:
				clause = append(clause, literal)
			}
		}
	}
	resolve(conflict)
	for i := len(s.engine.Trail) - 1; ; i-- {
		literal := s.engine.Trail[i]
		v := variable(literal)
		if !seen[v] || s.level[v] < len(s.levels) {
			continue
		}
		open--
		if open == 0 {
			clause[0] = -literal
			return clause, sources
		}
		resolve(s.engine.Reason(v))
	}
}

// roots adds the clauses that assigned a variable without any decision.
func (s *search) roots(v int, sources []int) []int {
	seen := map[int]bool{v: true}
	for queue := []int{v}; len(queue) > 0; queue = queue[1:] {
		reason := s.engine.Reason(queue[0])
		sources = append(sources, reason)
		for _, literal := range s.engine.Clause(reason) {
			if w := variable(literal); !seen[w] {
				seen[w] = true
				queue = append(queue, w)
			}
		}
	}
	return sources
}

// finish notes the clauses that led to a conflict without any decision.
func (s *search) finish(conflict int) {
	s.last = []int{conflict}
	for _, literal := range s.engine.Clause(conflict) {
		s.last = s.roots(variable(literal), s.last)
	}
}

// explain notes the assumptions that make another one false.
func (s *search) explain(literal int) {
	s.failed[literal] = true
	seen := map[int]bool{variable(literal): true}
	for queue := []int{variable(literal)}; len(queue) > 0; queue = queue[1:] {
		v := queue[0]
		if s.level[v] == 0 {
			continue
		}
		reason := s.engine.Reason(v)
		if reason == watch.None {
			// Only assumptions were decided so far.
			s.failed[v*s.engine.Value(v)] = true
			continue
		}
		for _, other := range s.engine.Clause(reason) {
			if w := variable(other); !seen[w] {
				seen[w] = true
				queue = append(queue, w)
			}
		}
	}
}

// model returns the model that was found.
func (s *search) model() []int {
	model := make([]int, s.vars)
	for i := range model {
		model[i] = i + 1
		if s.engine.Value(i+1) < 0 {
			model[i] = -i - 1
		}
	}
	return model
}

// needed returns the clauses on which the last conflict depends.
func (s *search) needed() map[int]bool {
	needed := map[int]bool{}
	for _, i := range s.last {
		needed[i] = true
	}
	for k := len(s.learned) - 1; k >= 0; k-- {
		if needed[s.first+k] {
			for _, i := range s.sources[k] {
				needed[i] = true
			}
		}
	}
	return needed
}

// proof returns the learned clauses on which the last conflict depends, and the empty clause.
func (s *search) proof() [][]int {
	needed := s.needed()
	var proof [][]int
	for k, clause := range s.learned {
		if needed[s.first+k] {
			proof = append(proof, slices.Clone(clause))
		}
	}
	return append(proof, []int{})
}

// luby returns the elements, from 1 on, of the sequence 1 1 2 1 1 2 4 1 1 2 ..
func luby(i int) int {
	k := 1
	for 1<<k-1 < i {
		k++
	}
	if i == 1<<k-1 {
		return 1 << (k - 1)
	}
	return luby(i - 1<<(k-1) + 1)
}
