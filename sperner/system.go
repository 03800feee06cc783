package sperner

import (
	"iter"

	"roundtable/api"
	"roundtable/complex"
	"roundtable/verified"
)

// table looks up the labels that vertices may have.
type table struct {
	allowed func(v api.Vertex) int
}

// together returns the labels that one of some vertices may have.
func (t table) together(s []api.Vertex) int {
	set := 0
	for _, v := range s {
		set |= t.allowed(v)
	}
	return set
}

// within reports whether some vertices may have labels from 0 to k only.
func (t table) within(s []api.Vertex, k int) bool { return t.together(s)>>(k+1) == 0 }

// may reports whether k vertices may together have all labels from 0 to k - 1.
func (t table) may(s []api.Vertex) bool {
	all := 1<<len(s) - 1
	return t.together(s)&all == all
}

// system has an unknown for each simplex of each level.
type system struct {
	labels    table
	simplices [][][]api.Vertex
	unknowns  [][]api.Vertex
	number    map[verified.Key]int
	level0    int
}

// newSystem returns the system of a complex for a dimension.
func newSystem(c api.Complex, labels table, d int) system {
	s := system{labels: labels, number: map[verified.Key]int{}}
	for k := range d + 1 {
		l, _ := complex.Simplices(c, k+1)
		s.simplices = append(s.simplices, l)
		for _, simplex := range l {
			if labels.within(simplex, k) {
				s.number[verified.KeyOf(simplex)] = len(s.unknowns)
				s.unknowns = append(s.unknowns, simplex)
			}
		}
		if k == 0 {
			s.level0 = len(s.unknowns)
		}
	}
	return s
}

// equations yields the unknowns of each equation, in ascending order: first that of the level 0, whose sum is 1, and then all others.
func (s system) equations(d int) iter.Seq[[]int] {
	return func(yield func([]int) bool) {
		first := make([]int, s.level0)
		for i := range first {
			first[i] = i
		}
		if !yield(first) {
			return
		}
		for k := 1; k <= d; k++ {
			above := s.cofaces(k)
			for _, f := range s.simplices[k-1] {
				if !s.labels.may(f) {
					continue
				}
				var row []int
				if i, ok := s.number[verified.KeyOf(f)]; ok {
					row = append(row, i)
				}
				if !yield(append(row, above[verified.KeyOf(f)]...)) {
					return
				}
			}
		}
	}
}

// cofaces returns for each simplex with k vertices the unknowns of the level k that have it as a face.
func (s system) cofaces(k int) map[verified.Key][]int {
	above := map[verified.Key][]int{}
	for _, simplex := range s.simplices[k] {
		i, ok := s.number[verified.KeyOf(simplex)]
		if !ok {
			continue
		}
		for face := range verified.Faces(simplex, k) {
			above[verified.KeyOf(face)] = append(above[verified.KeyOf(face)], i)
		}
	}
	return above
}
