package membership

import (
	"slices"

	"roundtable/adversary"
	"roundtable/api"
	"roundtable/machine"
	"roundtable/verified"
)

// state is a service with a group: the numbers of its members, and which of the processes are live members.
type state struct {
	api.Service
	group  api.Group
	number map[int]int
	live   int
}

func newState(s api.Service, g api.Group) state {
	x := state{s, g, map[int]int{}, 0}
	for p, m := range g.Members {
		if g.Set>>p&1 == 1 {
			x.number[p] = len(x.number)
			if !m.Halted {
				x.live |= 1 << p
			}
		}
	}
	return x
}

func (x state) machine() api.Machine { return x.Machines[len(x.number)-1] }

func (x state) adversary() api.Adversary { return x.Adversaries[len(x.number)-1] }

// suits reports whether all members that have halted are faulty in all rounds of a word.
func (x state) suits(word []api.Round) bool {
	for p, i := range x.number {
		if x.live>>p&1 == 1 {
			continue
		}
		if slices.ContainsFunc(word, func(r api.Round) bool { return r.Faulty>>i&1 == 0 }) {
			return false
		}
	}
	return true
}

// epoch returns the group behind an epoch, and the decisions of all members.
func epoch(s api.Service, g api.Group, e api.Epoch) (api.Group, []int, api.Errno) {
	x := newState(s, g)
	if err := x.check(e); err != api.OK {
		return api.Group{}, nil, err
	}
	m := x.machine()
	states, err := machine.Play(m, e.Proposals, e.Word)
	if err != api.OK {
		return api.Group{}, nil, err
	}
	decisions := make([]int, m.N)
	for i, state := range states[m.Rounds] {
		decisions[i] = m.Out[m.Rounds][i][state]
	}
	remaining := 0
	for p, i := range x.number {
		if verified.Faulty(e.Word)>>i&1 == 0 {
			remaining |= 1 << p
		}
	}
	remaining &= x.live
	change, err := x.change(e.Changes, decisions, remaining)
	if err != api.OK {
		return api.Group{}, nil, err
	}
	set := g.Set
	if change.Proc >= 0 {
		set ^= 1 << change.Proc
	}
	if set == 0 {
		return api.Group{}, nil, api.ErrEmpty
	}
	return x.behind(set, remaining), decisions, api.OK
}

// check returns the error of an epoch, up to its schedule.
func (x state) check(e api.Epoch) api.Errno {
	if x.live == 0 {
		return api.ErrHalted
	}
	if x.group.Epoch == api.MaxList-1 || len(e.Changes) < 1 || len(e.Changes) > api.MaxValues {
		return api.ErrMany
	}
	for _, change := range e.Changes {
		if change.Proc < -1 || change.Proc >= x.N {
			return api.ErrRange
		}
	}
	if len(e.Proposals) != len(x.number) {
		return api.ErrShape
	}
	for _, i := range e.Proposals {
		if i < 0 || i >= len(e.Changes) {
			return api.ErrRange
		}
	}
	permitted, _ := adversary.Allows(x.adversary(), e.Word)
	if !permitted || len(e.Word) != x.machine().Rounds || !x.suits(e.Word) {
		return api.ErrSchedule
	}
	return api.OK
}

// change returns the change that the remaining members have decided: nothing, if there are none.
func (x state) change(changes []api.Change, decisions []int, remaining int) (api.Change, api.Errno) {
	decided := api.Change{Proc: -1}
	first := true
	for p := range x.N {
		if remaining>>p&1 == 0 {
			continue
		}
		decision := decisions[x.number[p]]
		switch {
		case decision < 0:
			return api.Change{}, api.ErrGap
		case decision >= len(changes):
			return api.Change{}, api.ErrRange
		case first:
			decided, first = changes[decision], false
		case changes[decision] != decided:
			return api.Change{}, api.ErrMismatch
		}
	}
	return decided, api.OK
}

// behind returns the group behind an epoch with a new set.
func (x state) behind(set, remaining int) api.Group {
	g := api.Group{Epoch: x.group.Epoch + 1, Set: set}
	for p, m := range x.group.Members {
		m.History = slices.Clone(m.History)
		switch {
		case remaining>>p&1 == 1:
			m.History = append(m.History, set)
		case x.live>>p&1 == 1:
			m.Halted = true
		}
		g.Members = append(g.Members, m)
	}
	for p := range g.Members {
		if set>>p&1 == 1 && x.group.Set>>p&1 == 0 {
			least := g.Members[verified.Least(remaining)]
			g.Members[p] = api.Member{Joined: true, History: slices.Clone(least.History)}
		}
	}
	return g
}
