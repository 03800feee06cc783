package explore

import (
	"iter"
	"slices"

	"roundtable/api"
	"roundtable/round"
)

// Step is a round that one of two states permits, or both, with the states to which it leads, -1 for none.
type Step struct {
	Round api.Round
	X, Y  int
}

// Both reports whether both states permit the round.
func (s Step) Both() bool { return s.X >= 0 && s.Y >= 0 }

// Merge yields the rounds of the moves of two states, in ascending order.
func Merge(x, y []api.Move) iter.Seq[Step] {
	return func(yield func(Step) bool) {
		for i, k := 0, 0; i < len(x) || k < len(y); {
			order := 0
			switch {
			case i == len(x):
				order = 1
			case k == len(y):
				order = -1
			default:
				order = round.Compare(x[i].Round, y[k].Round)
			}
			s := Step{X: -1, Y: -1}
			if order <= 0 {
				s.Round, s.X = x[i].Round, x[i].To
				i++
			}
			if order >= 0 {
				s.Round, s.Y = y[k].Round, y[k].To
				k++
			}
			if !yield(s) {
				return
			}
		}
	}
}

// place is a pair of states that a search has reached, with the round that leads to it from an earlier place, -1 for the first one.
type place struct {
	pair  [2]int
	round api.Round
	from  int
}

// First searches the pairs of states of two automata that common words reach from a first one. It returns the shortest and least word whose last step is wanted, and the pairs that it has reached.
func First(x, y [][]api.Move, first [2]int, wanted func(Step) bool) ([]api.Round, bool, [][2]int) {
	found := map[[2]int]bool{first: true}
	queue := []place{{pair: first, from: -1}}
	var pairs [][2]int
	for i := 0; i < len(queue); i++ {
		p := queue[i].pair
		pairs = append(pairs, p)
		for s := range Merge(x[p[0]], y[p[1]]) {
			if wanted(s) {
				return word(queue, place{round: s.Round, from: i}), true, pairs
			}
			next := [2]int{s.X, s.Y}
			if s.Both() && !found[next] {
				found[next] = true
				queue = append(queue, place{next, s.Round, i})
			}
		}
	}
	return nil, false, pairs
}

// word returns the rounds that lead to a place.
func word(queue []place, last place) []api.Round {
	var l []api.Round
	for p := last; p.from >= 0; p = queue[p.from] {
		l = append(l, p.round)
	}
	slices.Reverse(l)
	return l
}
