// Package watch propagates units in clauses: it visits a clause only when one of the two literals that it watches becomes false.
package watch

// None is the reason of literals that are assumed, and the conflict if there is none.
const None = -1

// watcher is a clause that watches a literal, with another literal of it: if that one is true, the clause need not be visited.
type watcher struct{ clause, other int }

// Engine has clauses over some variables, and an assignment.
type Engine struct {
	Trail   []int
	clauses [][]int
	dropped []bool
	watched map[int][]watcher
	short   []int
	values  []int8
	reasons []int
	head    int
}

// New returns an engine without clauses.
func New(vars int) *Engine {
	return &Engine{watched: map[int][]watcher{}, values: make([]int8, vars+1), reasons: make([]int, vars+1)}
}

// Add adds a clause without repeated variables, which watches its first two literals, and returns its index.
func (x *Engine) Add(clause []int) int {
	i := len(x.clauses)
	x.clauses = append(x.clauses, append([]int{}, clause...))
	x.dropped = append(x.dropped, false)
	if len(clause) < 2 {
		x.short = append(x.short, i)
		return i
	}
	x.watched[clause[0]] = append(x.watched[clause[0]], watcher{i, clause[1]})
	x.watched[clause[1]] = append(x.watched[clause[1]], watcher{i, clause[0]})
	return i
}

// Drop takes a clause with at least two literals out of all further propagation.
func (x *Engine) Drop(i int) { x.dropped[i] = true }

// Clause returns the literals of a clause, in any order.
func (x *Engine) Clause(i int) []int { return x.clauses[i] }

// Value returns 1 for a true literal, -1 for a false one, and 0 for an open one.
func (x *Engine) Value(literal int) int {
	if literal < 0 {
		return -int(x.values[-literal])
	}
	return int(x.values[literal])
}

// Reason returns the clause that assigned a variable.
func (x *Engine) Reason(variable int) int { return x.reasons[variable] }

// Assign makes an open literal true.
func (x *Engine) Assign(literal, reason int) {
	variable, value := literal, int8(1)
	if literal < 0 {
		variable, value = -literal, -1
	}
	x.values[variable] = value
	x.reasons[variable] = reason
	x.Trail = append(x.Trail, literal)
}

// Undo takes back all assignments but the first ones.
func (x *Engine) Undo(length int) {
	for _, literal := range x.Trail[length:] {
		x.values[max(literal, -literal)] = 0
	}
	x.Trail = x.Trail[:length]
	x.head = min(x.head, length)
}

// Propagate assigns the open literals of visible clauses all of whose other literals are false, and returns a clause that is false, or None. Clauses with fewer than two literals are looked at by Short alone.
func (x *Engine) Propagate(visible func(clause int) bool) int {
	for x.head < len(x.Trail) {
		literal := -x.Trail[x.head]
		x.head++
		list := x.watched[literal]
		kept := list[:0]
		for k, w := range list {
			if x.dropped[w.clause] {
				continue
			}
			if x.Value(w.other) == 1 || !visible(w.clause) {
				kept = append(kept, w)
				continue
			}
			if x.move(w.clause, literal) {
				continue
			}
			other := x.clauses[w.clause][0]
			kept = append(kept, watcher{w.clause, other})
			switch x.Value(other) {
			case 0:
				x.Assign(other, w.clause)
			case -1:
				kept = append(kept, list[k+1:]...)
				x.watched[literal] = kept
				return w.clause
			}
		}
		x.watched[literal] = kept
	}
	return None
}

// move lets a clause watch another literal in place of a false one; otherwise the false one is put behind the other one that is watched.
func (x *Engine) move(i, literal int) bool {
	c := x.clauses[i]
	if c[0] == literal {
		c[0], c[1] = c[1], c[0]
	}
	if x.Value(c[0]) == 1 {
		return false
	}
	for k := 2; k < len(c); k++ {
		if x.Value(c[k]) >= 0 {
			c[1], c[k] = c[k], c[1]
			x.watched[c[1]] = append(x.watched[c[1]], watcher{i, c[0]})
			return true
		}
	}
	return false
}

// Short assigns the literals of visible clauses with a single one, and returns a clause that is false, or None.
func (x *Engine) Short(visible func(clause int) bool) int {
	for _, i := range x.short {
		if !visible(i) {
			continue
		}
		if len(x.clauses[i]) == 0 {
			return i
		}
		switch literal := x.clauses[i][0]; x.Value(literal) {
		case 0:
			x.Assign(literal, i)
		case -1:
			return i
		}
	}
	return None
}

// Refutes reports whether propagation in visible clauses, from some literals of different variables, ends in a conflict; it returns the clauses that led to it. The assignment is empty before and after.
func (x *Engine) Refutes(assumed []int, visible func(clause int) bool) ([]int, bool) {
	defer x.Undo(0)
	for _, literal := range assumed {
		x.Assign(literal, None)
	}
	conflict := x.Short(visible)
	if conflict == None {
		conflict = x.Propagate(visible)
	}
	if conflict == None {
		return nil, false
	}
	return x.used(conflict), true
}

// used returns the clauses that led to a conflict.
func (x *Engine) used(conflict int) []int {
	used := []int{conflict}
	seen := map[int]bool{conflict: true}
	for k := 0; k < len(used); k++ {
		for _, literal := range x.clauses[used[k]] {
			reason := x.reasons[max(literal, -literal)]
			if x.Value(literal) != 0 && reason != None && !seen[reason] {
				seen[reason] = true
				used = append(used, reason)
			}
		}
	}
	return used
}

// All makes all clauses visible.
func All(int) bool { return true }
