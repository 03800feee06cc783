package watch

import (
	"slices"
	"testing"

	"roundtable/api"
	"roundtable/clauses"
)

func TestRefutes(t *testing.T) {
	seed := uint32(9)
	next := func(n int) int {
		seed = seed*1664525 + 1013904223
		return int(seed >> 16 % uint32(n))
	}
	for range 300 {
		c := api.Clauses{Vars: 7}
		x := New(7)
		for range 5 + next(20) {
			var clause []int
			for v := 1; v <= 7; v++ {
				if k := next(7); k < 2 {
					clause = append(clause, v*(1-2*k))
				}
			}
			c.List = append(c.List, clause)
			x.Add(clause)
		}
		for range 10 {
			var assumed []int
			for v := 1; v <= 7; v++ {
				if k := next(5); k < 2 {
					assumed = append(assumed, v*(1-2*k))
				}
			}
			hidden := next(len(c.List))
			visible := c
			visible.List = slices.Delete(slices.Clone(c.List), hidden, hidden+1)
			_, _, conflict, _ := clauses.Propagate(visible, assumed)
			used, refuted := x.Refutes(assumed, func(i int) bool { return i != hidden })
			if refuted != (conflict >= 0) || slices.Contains(used, hidden) {
				t.Fatalf("%v from %v: %v by %v", visible.List, assumed, refuted, used)
			}
			if !refuted {
				continue
			}
			// What was used is enough.
			visible.List = nil
			for _, i := range used {
				visible.List = append(visible.List, c.List[i])
			}
			if _, _, conflict, _ = clauses.Propagate(visible, assumed); conflict < 0 {
				t.Fatalf("%v from %v", visible.List, assumed)
			}
		}
	}
}
