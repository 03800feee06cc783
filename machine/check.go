package machine

import (
	"roundtable/api"
)

// Check returns OK for well-formed machines.
func Check(m api.Machine) api.Errno {
	if m.N < 1 || m.N > api.MaxProcs || m.Rounds < 0 || m.Rounds > api.MaxRounds || m.Ins < 1 || m.Ins > api.MaxValues || m.Outs < 1 || m.Outs > api.MaxValues {
		return api.ErrRange
	}
	if !shaped(m) {
		return api.ErrShape
	}
	states := 0
	for _, row := range m.Out {
		for _, l := range row {
			states += len(l)
		}
	}
	if states > api.MaxViews || len(m.Steps) > api.MaxSteps {
		return api.ErrMany
	}
	if !numbered(m) {
		return api.ErrRange
	}
	for i, step := range m.Steps {
		if e := checkStep(m, step); e != api.OK {
			return e
		}
		if i > 0 && compare(m.Steps[i-1], step) >= 0 {
			return api.ErrOrder
		}
	}
	return api.OK
}

// shaped reports whether all lists have the right lengths.
func shaped(m api.Machine) bool {
	if len(m.First) != m.N || len(m.Out) != m.Rounds+1 || len(m.Symbols) != m.Rounds {
		return false
	}
	for _, l := range m.First {
		if len(l) != m.Ins {
			return false
		}
	}
	for _, row := range m.Out {
		if len(row) != m.N {
			return false
		}
	}
	for k, row := range m.Symbols {
		if len(row) != m.N {
			return false
		}
		for p, lists := range row {
			if len(lists) != m.N {
				return false
			}
			for q, l := range lists {
				if p == q && len(l) > 0 || p != q && len(l) != len(m.Out[k][p]) {
					return false
				}
			}
		}
	}
	return true
}

// numbered reports whether all numbers of First, Out and Symbols are in their ranges.
func numbered(m api.Machine) bool {
	within := func(l []int, least, most int) bool {
		for _, x := range l {
			if x < least || x > most {
				return false
			}
		}
		return true
	}
	for p, l := range m.First {
		if !within(l, -1, len(m.Out[0][p])-1) {
			return false
		}
	}
	for _, row := range m.Out {
		for _, l := range row {
			if !within(l, -1, m.Outs-1) {
				return false
			}
		}
	}
	for _, row := range m.Symbols {
		for _, lists := range row {
			for _, l := range lists {
				if !within(l, 0, api.MaxNumber) {
					return false
				}
			}
		}
	}
	return true
}

// checkStep returns the error of a step, but that of its order.
func checkStep(m api.Machine, step api.Step) api.Errno {
	if step.Round < 0 || step.Round >= m.Rounds || step.Proc < 0 || step.Proc >= m.N || step.To < 0 || step.To >= len(m.Out[step.Round+1][step.Proc]) {
		return api.ErrRange
	}
	for _, h := range step.Heard[m.N:] {
		if h != -1 {
			return api.ErrForm
		}
	}
	for q, h := range step.Heard[:m.N] {
		least, most := -1, api.MaxNumber
		if q == step.Proc {
			least, most = 0, len(m.Out[step.Round][q])-1
		}
		if h < least || h > most {
			return api.ErrRange
		}
	}
	return api.OK
}
