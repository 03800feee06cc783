package clauses

import (
	"container/heap"
	"slices"

	"roundtable/api"
)

// propagation knows which literals are assigned, how many literals of each clause are open, and which clauses may be the next ones.
type propagation struct {
	list      [][]int
	values    map[int]bool
	having    map[int][]int
	open      []int
	satisfied []bool
	ready     indices
}

// Propagate propagates an assignment: it returns all literals that are assigned, their reasons, and the conflict.
func Propagate(c api.Clauses, assumed []int) ([]int, []int, int, api.Errno) {
	if _, e := assignment(c, assumed); e != api.OK {
		return nil, nil, 0, e
	}
	p := newPropagation(c.List)
	assigned := slices.Clone(assumed)
	reasons := slices.Repeat([]int{-1}, len(assumed))
	for _, literal := range assumed {
		p.assign(literal)
	}
	for p.ready.Len() > 0 {
		i := heap.Pop(&p.ready).(int)
		if p.satisfied[i] {
			continue
		}
		if p.open[i] == 0 {
			return assigned, reasons, i, api.OK
		}
		literal := p.only(i)
		assigned = append(assigned, literal)
		reasons = append(reasons, i)
		p.assign(literal)
	}
	return assigned, reasons, -1, api.OK
}

func newPropagation(list [][]int) *propagation {
	p := &propagation{list: list, values: map[int]bool{}, having: map[int][]int{}, open: make([]int, len(list)), satisfied: make([]bool, len(list))}
	for i, clause := range list {
		p.open[i] = len(clause)
		for _, literal := range clause {
			p.having[variable(literal)] = append(p.having[variable(literal)], i)
		}
		if len(clause) < 2 {
			heap.Push(&p.ready, i)
		}
	}
	return p
}

// assign makes a literal true.
func (p *propagation) assign(literal int) {
	v := variable(literal)
	p.values[v] = literal > 0
	for _, i := range p.having[v] {
		p.open[i]--
		if slices.Contains(p.list[i], literal) {
			p.satisfied[i] = true
		} else if p.open[i] < 2 {
			heap.Push(&p.ready, i)
		}
	}
}

// only returns the open literal of a clause with a single one.
func (p *propagation) only(i int) int {
	k := slices.IndexFunc(p.list[i], func(literal int) bool {
		_, assigned := p.values[variable(literal)]
		return !assigned
	})
	return p.list[i][k]
}

// indices is a heap of indices of clauses.
type indices []int

func (l indices) Len() int           { return len(l) }
func (l indices) Less(i, k int) bool { return l[i] < l[k] }
func (l indices) Swap(i, k int)      { l[i], l[k] = l[k], l[i] }
func (l *indices) Push(x any)        { *l = append(*l, x.(int)) }
func (l *indices) Pop() any {
	last := (*l)[len(*l)-1]
	*l = (*l)[:len(*l)-1]
	return last
}
