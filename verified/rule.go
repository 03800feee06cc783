package verified

import (
	"iter"
	"slices"

	"roundtable/api"
)

// Early returns the early rule of the values of the relevant final views.
func Early(s api.System, continuing [][]int, values []int) []int {
	out := slices.Repeat([]int{-1}, len(s.Table.Views))
	// The view of the round before stands before each view.
	for v, finals := range continuing {
		switch {
		case len(finals) == 0:
			if own := Own(s.Table, v); own >= 0 {
				out[v] = out[own]
			}
		case !slices.ContainsFunc(finals, func(f int) bool { return values[f] != values[finals[0]] }):
			out[v] = values[finals[0]]
		}
	}
	return out
}

// Times returns the round at which each process decides in an execution, -1 for those that do not.
func Times(s api.System, out []int, e int) []int {
	times := slices.Repeat([]int{-1}, s.Problem.Task.N)
	for k, views := range s.Executions[e].Views {
		for p, v := range views {
			if times[p] < 0 && out[v] >= 0 {
				times[p] = k
			}
		}
	}
	return times
}

// Decisions returns the decisions in an execution.
func Decisions(s api.System, out []int, e int) []int {
	l := slices.Clone(Final(s, e))
	for p, v := range l {
		l[p] = out[v]
	}
	return l
}

// Failing returns the first execution in which the decisions of a rule are not permitted, -1 if there is none.
func Failing(s api.System, out []int) int {
	permits := NewPermits(s.Problem.Task)
	for e, x := range s.Executions {
		if !permits.All(x.Case, Faulty(x.Word), Decisions(s, out, e)) {
			return e
		}
	}
	return -1
}

// Measure returns the greatest round, and the sum of the rounds, in which obliged processes decide; false if one does not.
func Measure(s api.System, out []int) (int, int, bool) {
	worst, total := 0, 0
	for e := range s.Executions {
		obliged := Obliged(s, e)
		for p, k := range Times(s, out, e) {
			if obliged>>p&1 == 0 {
				continue
			}
			if k < 0 {
				return 0, 0, false
			}
			worst = max(worst, k)
			total += k
		}
	}
	return worst, total, true
}

// Solutions yields the choices of values of the domains that solve the problem: for each view its value, -1 for those that are not relevant. Each one is overwritten by the next ones.
func Solutions(s api.System, domains [][]int) iter.Seq[[]int] {
	return func(yield func([]int) bool) {
		permits := NewPermits(s.Problem.Task)
		relevant := Relevant(s)
		due := executionsDue(s)
		values := slices.Repeat([]int{-1}, len(domains))
		var extend func(i int) bool
		extend = func(i int) bool {
			if i == len(relevant) {
				return yield(values)
			}
			view := relevant[i]
		next:
			for _, value := range domains[view] {
				values[view] = value
				for _, e := range due[view] {
					if !permits.All(s.Executions[e].Case, Faulty(s.Executions[e].Word), Decisions(s, values, e)) {
						continue next
					}
				}
				if !extend(i + 1) {
					return false
				}
			}
			values[view] = -1
			return true
		}
		extend(0)
	}
}

// executionsDue returns for each view the executions in which it is the last one of those of obliged processes; of executions that ask for the same only the first one.
func executionsDue(s api.System) [][]int {
	due := make([][]int, len(s.Table.Views))
	visited := map[[api.MaxProcs + 2]int]bool{}
	for e, x := range s.Executions {
		last := -1
		place := [api.MaxProcs + 2]int{x.Case, Faulty(x.Word)}
		for p, v := range Final(s, e) {
			if Obliged(s, e)>>p&1 == 1 {
				last = max(last, v)
				place[p+2] = v + 1
			}
		}
		if last >= 0 && !visited[place] {
			visited[place] = true
			due[last] = append(due[last], e)
		}
	}
	return due
}
