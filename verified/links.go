package verified

import (
	"iter"
	"math/bits"

	"roundtable/api"
)

// Links knows which executions of a system are linked: those that have the same final view of an obliged process.
type Links struct {
	s      api.System
	having [][]int
}

// NewLinks returns the links of a system.
func NewLinks(s api.System) Links {
	l := Links{s, make([][]int, len(s.Table.Views))}
	for e := range s.Executions {
		for v := range l.views(e) {
			l.having[v] = append(l.having[v], e)
		}
	}
	return l
}

// views yields the final views of the obliged processes of an execution.
func (l Links) views(e int) iter.Seq[int] {
	return func(yield func(int) bool) {
		obliged := Obliged(l.s, e)
		for p, v := range Final(l.s, e) {
			if obliged>>p&1 == 1 && !yield(v) {
				return
			}
		}
	}
}

// By returns the set of the processes that link two executions.
func (l Links) By(e, f int) int {
	set := 0
	for p, v := range Final(l.s, e) {
		if Final(l.s, f)[p] == v {
			set |= 1 << p
		}
	}
	return set & Obliged(l.s, e) & Obliged(l.s, f)
}

// Neighbors yields the executions that are linked with one, some of them several times.
func (l Links) Neighbors(e int) iter.Seq[int] {
	return func(yield func(int) bool) {
		for v := range l.views(e) {
			for _, f := range l.having[v] {
				if !yield(f) {
					return
				}
			}
		}
	}
}

// Distances returns the number of steps from each execution to one, -1 where there is no walk.
func (l Links) Distances(to int) []int {
	steps := make([]int, len(l.s.Executions))
	for e := range steps {
		steps[e] = -1
	}
	steps[to] = 0
	expanded := make([]bool, len(l.having))
	queue := []int{to}
	for i := 0; i < len(queue); i++ {
		for v := range l.views(queue[i]) {
			if expanded[v] {
				continue
			}
			expanded[v] = true
			for _, f := range l.having[v] {
				if steps[f] < 0 {
					steps[f] = steps[queue[i]] + 1
					queue = append(queue, f)
				}
			}
		}
	}
	return steps
}

// Walk returns the first walk from an execution to another one.
func (l Links) Walk(e, f int) ([]api.Link, bool) {
	steps := l.Distances(f)
	if steps[e] < 0 {
		return nil, false
	}
	walk := []api.Link{{Execution: e, Proc: -1}}
	for e != f {
		next := len(steps)
		for g := range l.Neighbors(e) {
			if steps[g] == steps[e]-1 {
				next = min(next, g)
			}
		}
		walk = append(walk, api.Link{Execution: next, Proc: Least(l.By(e, next))})
		e = next
	}
	return walk, true
}

// Least returns the least element of a set, -1 if it is empty.
func Least(set int) int {
	if set == 0 {
		return -1
	}
	return bits.TrailingZeros(uint(set))
}
