package verified

import (
	"roundtable/api"
)

// decisions are values of processes, 0 for those that do not matter.
type decisions [api.MaxProcs]int

// Permits knows which values the obliged processes may have together; it is fast for many questions.
type Permits struct {
	task  api.Task
	known map[[2]int]map[decisions]bool
}

// NewPermits returns what a task permits.
func NewPermits(t api.Task) Permits {
	return Permits{t, map[[2]int]map[decisions]bool{}}
}

// All reports whether some allowed vector has the values of all processes that are not faulty.
func (x Permits) All(index, faulty int, values []int) bool {
	key := [2]int{index, faulty}
	if x.known[key] == nil {
		x.known[key] = map[decisions]bool{}
		for _, v := range Allowed(x.task.Cases[index], faulty) {
			x.known[key][obliged(v, faulty)] = true
		}
	}
	return faulty == 1<<x.task.N-1 || x.known[key][obliged(values, faulty)]
}

// obliged returns the values of the processes that are not faulty.
func obliged(values []int, faulty int) decisions {
	var d decisions
	for p, value := range values {
		if faulty>>p&1 == 0 {
			d[p] = value
		}
	}
	return d
}

// Domains returns for each view the values that its process has in some allowed vector in each execution in which it is obliged and has the view, as its last one; none for views that are not relevant.
func Domains(s api.System) [][]int {
	masks := make([]int, len(s.Table.Views))
	for v := range masks {
		masks[v] = -1
	}
	known := map[[2]int]decisions{}
	for e, x := range s.Executions {
		faulty := Faulty(x.Word)
		key := [2]int{x.Case, min(faulty, 1)}
		values, ok := known[key]
		if !ok {
			for _, v := range Allowed(Case(s, e), faulty) {
				for p, value := range v {
					values[p] |= 1 << value
				}
			}
			known[key] = values
		}
		for p, view := range Final(s, e) {
			if faulty>>p&1 == 0 {
				masks[view] &= values[p]
			}
		}
	}
	domains := make([][]int, len(masks))
	for v, mask := range masks {
		for value := range s.Problem.Task.Outs {
			if mask >= 0 && mask>>value&1 == 1 {
				domains[v] = append(domains[v], value)
			}
		}
	}
	return domains
}

// Judge returns the kind of violation of decisions in an execution of a case whose schedule is permitted.
func Judge(c api.Case, faulty int, decisions []int) int {
	for p, decision := range decisions {
		if faulty>>p&1 == 0 && decision < 0 {
			return api.ViolationUndecided
		}
	}
	if !Permitted(c, faulty, decisions) {
		return api.ViolationOutput
	}
	return api.ViolationNone
}
