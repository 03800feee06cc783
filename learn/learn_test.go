package learn

import (
	"slices"
	"testing"

	"roundtable/api"
	"roundtable/clauses"
	"roundtable/refute"
)

func TestOrder(t *testing.T) {
	o := newOrder(50)
	seed := uint32(1)
	for range 400 {
		seed = seed*1664525 + 1013904223
		v := int(seed>>16%50) + 1
		switch seed >> 8 % 4 {
		case 0:
			o.push(v)
		case 1:
			o.raise(v, int(seed>>20%9))
		case 2:
			o.pop()
		default:
			if v < 3 {
				o.lower(1)
			}
		}
		for place, w := range o.heap {
			if o.places[w] != place || place > 0 && o.before(w, o.heap[(place-1)/2]) {
				t.Fatalf("heap: %v", o.heap)
			}
		}
	}
	var l []int
	for v := o.pop(); v != 0; v = o.pop() {
		l = append(l, v)
	}
	if !slices.IsSortedFunc(l, func(v, w int) int {
		if o.before(v, w) {
			return -1
		}
		return 1
	}) {
		t.Errorf("order: %v", l)
	}
}

// TestAssumptions asks one search for many assumptions, and checks its answers by searches of their own.
func TestAssumptions(t *testing.T) {
	seed := uint32(7)
	next := func(n int) int {
		seed = seed*1664525 + 1013904223
		return int(seed >> 12 % uint32(n))
	}
	for round := range 40 {
		vars := 8 + round%30
		c := api.Clauses{Vars: vars}
		for range vars * 4 {
			var clause []int
			for len(clause) < 3 {
				if v := 1 + next(vars); !slices.Contains(clause, v) && !slices.Contains(clause, -v) {
					clause = append(clause, v*(1-2*next(2)))
				}
			}
			c.List = append(c.List, ordered(clause))
		}
		s := New(c, nil)
		for range 25 {
			var assumed []int
			for v := 1; v <= vars; v++ {
				if k := next(8); k < 2 {
					assumed = append(assumed, v*(1-2*k))
				}
			}
			more := api.Clauses{Vars: vars, List: slices.Clone(c.List)}
			for _, literal := range assumed {
				more.List = append(more.List, []int{literal})
			}
			verdict := s.Run(assumed)
			if verdict != New(more, nil).Run(nil) {
				t.Fatalf("%v under %v: %d", c.List, assumed, verdict)
			}
			if verdict == api.VerdictYes {
				if _, ok, e := clauses.Eval(more, s.Model()); !ok || e != api.OK {
					t.Fatalf("%v under %v: no model", c.List, assumed)
				}
			} else if _, e := refute.Verify(more, s.Proof()); e != api.OK {
				t.Fatalf("%v under %v: no refutation", c.List, assumed)
			}
		}
	}
}
