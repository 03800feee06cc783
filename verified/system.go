package verified

import (
	"slices"

	"roundtable/api"
)

// Faulty returns the processes that are faulty at the end of a word.
func Faulty(word []api.Round) int {
	if len(word) == 0 {
		return 0
	}
	return word[len(word)-1].Faulty
}

// Obliged returns the processes that are obliged to decide in an execution.
func Obliged(s api.System, e int) int {
	return (1<<s.Problem.Task.N - 1) &^ Faulty(s.Executions[e].Word)
}

// Final returns the views of an execution behind its last round.
func Final(s api.System, e int) []int {
	views := s.Executions[e].Views
	return views[len(views)-1]
}

// Case returns the case of an execution.
func Case(s api.System, e int) api.Case { return s.Problem.Task.Cases[s.Executions[e].Case] }

// Relevant returns the relevant final views in ascending order.
func Relevant(s api.System) []int {
	relevant := make([]bool, len(s.Table.Views))
	for e := range s.Executions {
		for p, v := range Final(s, e) {
			if Obliged(s, e)>>p&1 == 1 {
				relevant[v] = true
			}
		}
	}
	var l []int
	for v, is := range relevant {
		if is {
			l = append(l, v)
		}
	}
	return l
}

// Own returns the view of the same process in the round before, -1 in round 0.
func Own(t api.Table, v int) int {
	view := t.Views[v]
	if view.Round == 0 {
		return -1
	}
	return view.Heard[view.Proc]
}

// Continuing returns for each view the relevant final views that continue it, in ascending order.
func Continuing(s api.System) [][]int {
	l := make([][]int, len(s.Table.Views))
	for _, final := range Relevant(s) {
		for v := final; v >= 0; v = Own(s.Table, v) {
			l[v] = append(l[v], final)
		}
	}
	return l
}

// Inputs returns for each view the inputs that it knows, -1 for the others.
func Inputs(t api.Table) [][]int {
	l := make([][]int, len(t.Views))
	for v, view := range t.Views {
		inputs := slices.Repeat([]int{-1}, t.N)
		if view.Round == 0 {
			inputs[view.Proc] = view.Input
		}
		for _, h := range view.Heard {
			if h < 0 {
				continue
			}
			for p, input := range l[h] {
				inputs[p] = max(inputs[p], input)
			}
		}
		l[v] = inputs
	}
	return l
}
