package machine

import (
	"slices"

	"roundtable/api"
	"roundtable/quotient"
	"roundtable/rule"
	"roundtable/verified"
)

// Synthesize returns the machine of a rule.
func Synthesize(s api.System, r api.Rule) (api.Machine, api.Errno) {
	if e := rule.Check(s, r); e != api.OK {
		return api.Machine{}, e
	}
	classes, e := quotient.Classes(s, r)
	if e != api.OK {
		return api.Machine{}, e
	}
	t := s.Problem.Task
	m := api.Machine{N: t.N, Rounds: s.Problem.Rounds, Ins: t.Ins, Outs: t.Outs}
	for range m.N {
		m.First = append(m.First, slices.Repeat([]int{-1}, m.Ins))
	}
	for range m.Rounds + 1 {
		m.Out = append(m.Out, make([][]int, m.N))
	}
	// The states of a process after some rounds are numbered in the order of their classes.
	places := verified.ClassPlaces(s, classes)
	var state []int
	for view, class := range classes {
		x := places[class]
		if class == len(state) {
			state = append(state, len(m.Out[x.Round][x.Proc]))
			m.Out[x.Round][x.Proc] = append(m.Out[x.Round][x.Proc], r.Out[view])
		}
		if x.Round == 0 {
			m.First[x.Proc][s.Table.Views[view].Input] = state[class]
		}
	}
	symbols := addSymbols(&m, s, classes)
	for view, x := range s.Table.Views {
		if x.Round == 0 {
			continue
		}
		step := api.Step{Round: x.Round - 1, Proc: x.Proc, To: state[classes[view]]}
		for q, h := range x.Heard {
			step.Heard[q] = -1
			switch {
			case h < 0:
			case q == x.Proc:
				step.Heard[q] = state[classes[h]]
			default:
				step.Heard[q] = symbols(x.Round-1, q, x.Proc, classes[h])
			}
		}
		m.Steps = append(m.Steps, step)
	}
	slices.SortFunc(m.Steps, compare)
	m.Steps = slices.Compact(m.Steps)
	return m, api.OK
}

// addSymbols adds the symbols of all places, and returns a function that returns the symbol of a class at a place.
func addSymbols(m *api.Machine, s api.System, classes []int) func(k, from, to, class int) int {
	known := map[[3]int][]int{}
	places := verified.ClassPlaces(s, classes)
	for k := range m.Rounds {
		row := make([][][]int, m.N)
		for p := range row {
			row[p] = make([][]int, m.N)
			for q := range row[p] {
				if p == q {
					continue
				}
				symbols := verified.Symbols(s, classes, k, p, q)
				known[[3]int{k, p, q}] = symbols
				for class, symbol := range symbols {
					if places[class] == (verified.ClassPlace{Proc: p, Round: k}) {
						row[p][q] = append(row[p][q], symbol)
					}
				}
			}
		}
		m.Symbols = append(m.Symbols, row)
	}
	return func(k, from, to, class int) int { return known[[3]int{k, from, to}][class] }
}
