package explore

import (
	"iter"
	"testing"

	"roundtable/adversary"
	"roundtable/api"
)

// counter returns the moves of a state that counts up to a number, with some moves to the next state.
func counter(most, moves int) func(int) iter.Seq[Move[int]] {
	return func(s int) iter.Seq[Move[int]] {
		return func(yield func(Move[int]) bool) {
			for k := moves - 1; k >= 0; k-- {
				r := api.Round{Graph: api.Graph{N: 5, Hears: [5]int{1 | k<<1, 2, 4, 8, 16}}}
				if !yield(Move[int]{r, min(s+1, most)}) {
					return
				}
			}
		}
	}
}

func TestBuild(t *testing.T) {
	for _, x := range []struct {
		most, moves int
		ok          bool
	}{{255, 1, true}, {256, 1, false}, {255, 16, true}, {3, 16, true}} {
		a, ok := Build(5, 0, counter(x.most, x.moves))
		if ok != x.ok || ok && (adversary.Check(a) != api.OK || len(a.States) != x.most+1) {
			t.Errorf("Build for %v: %v", x, ok)
		}
	}
	wide := func(s int) iter.Seq[Move[int]] {
		return func(yield func(Move[int]) bool) {
			for k := range api.MaxMoves + 1 {
				if !yield(Move[int]{Round: api.Round{Faulty: k}}) {
					return
				}
			}
		}
	}
	if _, ok := Build(1, 0, wide); ok {
		t.Errorf("too many moves")
	}
}
