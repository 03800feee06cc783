// Package explore builds automata from their states and moves: it numbers the states in the order in which they are found.
package explore

import (
	"iter"
	"slices"

	"roundtable/api"
	"roundtable/round"
)

// Move is a move to a state that has no number yet.
type Move[S comparable] struct {
	Round api.Round
	To    S
}

// Build returns the automaton of the states that can be reached from a first one, whose moves a function yields in any order. It returns false if there are more states or moves than adversaries may have. States without moves are possible.
func Build[S comparable](n int, first S, moves func(S) iter.Seq[Move[S]]) (api.Adversary, bool) {
	a := api.Adversary{N: n}
	states := []S{first}
	number := map[S]int{first: 0}
	total := 0
	for i := 0; i < len(states); i++ {
		var found []Move[S]
		for m := range moves(states[i]) {
			total++
			if total > api.MaxMoves {
				return api.Adversary{}, false
			}
			found = append(found, m)
		}
		slices.SortFunc(found, func(x, y Move[S]) int { return round.Compare(x.Round, y.Round) })
		var state []api.Move
		for _, m := range found {
			to, ok := number[m.To]
			if !ok {
				to = len(states)
				number[m.To] = to
				states = append(states, m.To)
			}
			state = append(state, api.Move{Round: m.Round, To: to})
		}
		if len(states) > api.MaxStates {
			return api.Adversary{}, false
		}
		a.States = append(a.States, state)
	}
	return a, true
}
