package optimal

import (
	"slices"

	"roundtable/api"
	"roundtable/learn"
	"roundtable/verified"
)

// choice is a value of a view.
type choice struct{ view, value int }

// oracle answers which values views can decide.
type oracle struct {
	s          api.System
	clauses    api.Clauses
	domains    [][]int
	continuing [][]int
	choices    []choice
	number     map[choice]int
	// with returns the clauses with those that force a view to a value.
	with   func(view, value int) api.Clauses
	search *learn.Search
	// answers keeps what some rule that solves the problem decides; decides says the same of views alone.
	answers map[choice]bool
	decides []bool
}

func makeOracle(s api.System, c api.Clauses, domains [][]int) *oracle {
	x := &oracle{s: s, clauses: c, domains: domains, continuing: verified.Continuing(s), number: map[choice]int{}, search: learn.New(c, nil), answers: map[choice]bool{}, decides: make([]bool, len(domains))}
	for view, values := range domains {
		for _, value := range values {
			x.choices = append(x.choices, choice{view, value})
			x.number[choice{view, value}] = len(x.choices)
		}
	}
	x.with = func(view, value int) api.Clauses {
		more := api.Clauses{Vars: c.Vars, List: slices.Clone(c.List)}
		for _, final := range x.continuing[view] {
			clause := []int{}
			if v, ok := x.number[choice{final, value}]; ok {
				clause = append(clause, v)
			}
			more.List = append(more.List, clause)
		}
		return more
	}
	return x
}

// note keeps what the early rule of a model decides, and returns its values.
func (x *oracle) note(model []int) []int {
	values := slices.Repeat([]int{-1}, len(x.domains))
	for view, domain := range x.domains {
		for _, value := range domain {
			if values[view] < 0 && model[x.number[choice{view, value}]-1] > 0 {
				values[view] = value
			}
		}
	}
	out := verified.Early(x.s, x.continuing, values)
	for view, value := range out {
		if value >= 0 && len(x.continuing[view]) > 0 {
			x.answers[choice{view, value}] = true
			x.decides[view] = true
		}
	}
	return out
}

// can reports whether an open view can decide a value, or returns a refutation.
func (x *oracle) can(view, value int) (bool, [][]int, api.Errno) {
	if x.answers[choice{view, value}] {
		return true, nil, api.OK
	}
	var forced []int
	for _, final := range x.continuing[view] {
		v, ok := x.number[choice{final, value}]
		if !ok {
			// The empty clause is one of those that force the view.
			return false, [][]int{{}}, api.OK
		}
		forced = append(forced, v)
	}
	switch x.search.Run(forced) {
	case api.VerdictYes:
		// The model may have further values true, of which the least ones are not those that are asked for.
		model := x.search.Model()
		for _, v := range forced {
			final := x.choices[v-1].view
			for _, other := range x.domains[final] {
				if w := x.number[choice{final, other}]; w != v {
					model[w-1] = -w
				}
			}
		}
		x.note(model)
		return true, nil, api.OK
	case api.VerdictUnknown:
		return false, nil, api.ErrLimit
	}
	proof := x.search.Proof()
	if len(proof) > api.MaxClauses {
		return false, nil, api.ErrLimit
	}
	return false, proof, api.OK
}

// decide finds the views that can decide, and returns an early rule that solves the problem, with the denials for all other open views.
func (x *oracle) decide() ([]int, []Denial, api.Errno) {
	switch x.search.Run(nil) {
	case api.VerdictNo:
		return nil, nil, api.ErrNone
	case api.VerdictUnknown:
		return nil, nil, api.ErrLimit
	}
	out := x.note(x.search.Model())
	var denials []Denial
	for view, finals := range x.continuing {
		if own := verified.Own(x.s.Table, view); own >= 0 && x.decides[own] {
			x.decides[view] = true
		}
		if len(finals) == 0 || x.decides[view] {
			continue
		}
		var denied []Denial
		for value := 0; value < x.s.Problem.Task.Outs && !x.decides[view]; value++ {
			can, proof, e := x.can(view, value)
			if e != api.OK {
				return nil, nil, e
			}
			if !can {
				denied = append(denied, Denial{view, value, proof})
			}
		}
		if !x.decides[view] {
			denials = append(denials, denied...)
		}
	}
	return out, denials, api.OK
}

// agree returns an early rule that solves the problem and decides at some views; ErrNone if there is none.
//
// All final views that continue such a view have the same value: so they are one view with the common values, in clauses that have fewer variables.
func (x *oracle) agree(decides func(view int) bool) ([]int, api.Errno) {
	group := make([]int, len(x.domains))
	for view := range group {
		group[view] = view
	}
	root := func(view int) int {
		for group[view] != view {
			group[view] = group[group[view]]
			view = group[view]
		}
		return view
	}
	for view, finals := range x.continuing {
		for _, final := range finals {
			if decides(view) {
				a, b := root(finals[0]), root(final)
				group[max(a, b)] = min(a, b)
			}
		}
	}
	common := map[choice]int{}
	members := map[int]int{}
	for view, finals := range x.continuing {
		if slices.Contains(finals, view) {
			members[root(view)]++
			for _, value := range x.domains[view] {
				common[choice{root(view), value}]++
			}
		}
	}
	merged, number := x.merge(func(c choice) (choice, bool) {
		c.view = root(c.view)
		return c, common[c] == members[c.view]
	})
	search := learn.New(merged, nil)
	switch search.Run(nil) {
	case api.VerdictNo:
		return nil, api.ErrNone
	case api.VerdictUnknown:
		return nil, api.ErrLimit
	}
	model := search.Model()
	values := slices.Repeat([]int{-1}, len(x.domains))
	for view, domain := range x.domains {
		for _, value := range domain {
			if v, ok := number[choice{root(view), value}]; ok && values[view] < 0 && model[v-1] > 0 {
				values[view] = value
			}
		}
	}
	return verified.Early(x.s, x.continuing, values), api.OK
}

// merge returns the clauses in which each choice is replaced by another one, or is false, and the numbers of their variables.
func (x *oracle) merge(replace func(choice) (choice, bool)) (api.Clauses, map[choice]int) {
	number := map[choice]int{}
	literals := make([]int, x.clauses.Vars+1)
	for view, domain := range x.domains {
		for _, value := range domain {
			c, ok := replace(choice{view, value})
			if !ok {
				continue
			}
			if _, known := number[c]; !known {
				number[c] = len(number) + 1
			}
			literals[x.number[choice{view, value}]] = number[c]
		}
	}
	merged := api.Clauses{Vars: len(number)}
	for _, clause := range x.clauses.List {
		rest, isTrue := []int{}, false
		for _, literal := range clause {
			v := literals[max(literal, -literal)]
			switch {
			case v == 0:
				isTrue = isTrue || literal < 0
			case literal < 0:
				rest = append(rest, -v)
			default:
				rest = append(rest, v)
			}
		}
		if isTrue {
			continue
		}
		// No clause has a variable and a negation.
		slices.SortFunc(rest, func(a, b int) int { return max(a, -a) - max(b, -b) })
		merged.List = append(merged.List, slices.Compact(rest))
	}
	return merged, number
}
