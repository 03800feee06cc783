package solver

import (
	"iter"
	"math/bits"

	"roundtable/api"
)

// table has a bit for each assignment of few variables, in the order of models: variable 1 is the highest bit of its number, which is 0 if it is true.
type table struct {
	vars  int
	words []uint64
}

// newTable returns the table of the models of clauses.
func newTable(c api.Clauses) table {
	size := 1 << c.Vars
	t := table{c.Vars, make([]uint64, (size+63)/64)}
	for i := range t.words {
		t.words[i] = ^uint64(0)
	}
	if size < 64 {
		t.words[0] = 1<<size - 1
	}
	for _, clause := range c.List {
		t.exclude(clause)
	}
	return t
}

// exclude takes out the assignments for which a clause is false.
func (t table) exclude(clause []int) {
	// In each word the six lowest bits of the numbers of assignments run through all values.
	low := ^uint64(0)
	mask, value := 0, 0
	for _, literal := range clause {
		bit := t.vars - variable(literal)
		negated := literal > 0 // a false literal has the other value
		if bit >= 6 {
			mask |= 1 << (bit - 6)
			if negated {
				value |= 1 << (bit - 6)
			}
			continue
		}
		pattern := uint64(0)
		for k := range 64 {
			if k>>bit&1 == 1 == negated {
				pattern |= 1 << k
			}
		}
		low &= pattern
	}
	for i := range t.words {
		if i&mask == value {
			t.words[i] &^= low
		}
	}
}

func (t table) count() int {
	n := 0
	for _, word := range t.words {
		n += bits.OnesCount64(word)
	}
	return n
}

// models yields the models in ascending order.
func (t table) models() iter.Seq[[]int] {
	return func(yield func([]int) bool) {
		for i, word := range t.words {
			for ; word != 0; word &= word - 1 {
				number := i*64 + bits.TrailingZeros64(word)
				model := make([]int, t.vars)
				for v := range model {
					model[v] = (v + 1) * (1 - number>>(t.vars-1-v)&1*2)
				}
				if !yield(model) {
					return
				}
			}
		}
	}
}
