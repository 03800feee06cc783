package rainbow

import (
	"iter"
	"slices"

	"roundtable/api"
	"roundtable/verified"
)

// key is a face in a form that maps accept as a key.
type key [api.MaxProcs]int

// origin is a case with the processes that are faulty, as far as they matter: none, or some.
type origin struct{ index, faulty int }

// base has the faces of a system, by their numbers of views less 1, and the origins of the executions that have them.
type base struct {
	s       api.System
	domains [][]int
	faces   [][][]int
	origins map[key][]origin
	// sets keeps the sets of different values that processes may have together.
	sets map[[3]int]map[int]bool
}

// space is a base with a list of values.
type space struct {
	*base
	values []int
	label  func(view int) int
}

func keyOf(face []int) key {
	var k key
	for i := copy(k[:], face); i < len(k); i++ {
		k[i] = -1
	}
	return k
}

func newBase(s api.System) *base {
	x := &base{s, verified.Domains(s), make([][][]int, s.Problem.Task.N), map[key][]origin{}, map[[3]int]map[int]bool{}}
	for e, y := range s.Executions {
		o := origin{y.Case, min(verified.Faulty(y.Word), 1)}
		for face := range x.facesOf(e) {
			k := keyOf(face)
			if x.origins[k] == nil {
				x.faces[len(face)-1] = append(x.faces[len(face)-1], slices.Clone(face))
			}
			if !slices.Contains(x.origins[k], o) {
				x.origins[k] = append(x.origins[k], o)
			}
		}
	}
	for _, l := range x.faces {
		slices.SortFunc(l, slices.Compare[[]int])
	}
	return x
}

// with returns the space for a list of values.
func (x *base) with(values []int) space { return space{x, values, labels(x.domains, values)} }

// facesOf yields the faces of an execution; each one is overwritten by the next ones.
func (x *base) facesOf(e int) iter.Seq[[]int] {
	return func(yield func([]int) bool) {
		var views []int
		for p, view := range verified.Final(x.s, e) {
			if verified.Obliged(x.s, e)>>p&1 == 1 {
				views = append(views, view)
			}
		}
		slices.Sort(views)
		face := make([]int, 0, len(views))
		for set := 1; set < 1<<len(views); set++ {
			face = face[:0]
			for i, view := range views {
				if set>>i&1 == 1 {
					face = append(face, view)
				}
			}
			if !yield(face) {
				return
			}
		}
	}
}

// possible returns the sets of values, all of them different, that some processes have in allowed vectors.
func (x *base) possible(o origin, procs int) map[int]bool {
	key := [3]int{o.index, o.faulty, procs}
	if x.sets[key] == nil {
		x.sets[key] = map[int]bool{}
		for _, v := range verified.Allowed(x.s.Problem.Task.Cases[o.index], o.faulty) {
			set, different := 0, true
			for p, value := range v {
				if procs>>p&1 == 1 {
					different = different && set>>value&1 == 0
					set |= 1 << value
				}
			}
			if different {
				x.sets[key][set] = true
			}
		}
	}
	return x.sets[key]
}

// excluded reports whether some execution with a face has no allowed vector with exactly the values at its processes.
func (x space) excluded(face []int) bool {
	procs, set := 0, 0
	for i, view := range face {
		procs |= 1 << x.s.Table.Views[view].Proc
		set |= 1 << x.values[i]
	}
	return slices.ContainsFunc(x.origins[keyOf(face)], func(o origin) bool { return !x.possible(o, procs)[set] })
}

// together returns the labels that one of some views may have.
func (x space) together(face []int) int {
	set := 0
	for _, view := range face {
		set |= x.label(view)
	}
	return set
}

// permits reports whether the views of a face have no values but those of its level, and, in the last one, whether some execution excludes that it is rainbow.
func (x space) permits(face []int) bool {
	if x.together(face)>>len(face) != 0 {
		return false
	}
	return len(face) < len(x.values) || x.excluded(face)
}

// may reports whether the k views of a face may together have all labels from 0 to k - 1.
func (x space) may(face []int) bool {
	all := 1<<len(face) - 1
	return x.together(face)&all == all
}

// unknowns returns the faces that may be in the levels, and their numbers.
func (x space) unknowns() ([][]int, map[key]int) {
	var l [][]int
	number := map[key]int{}
	for _, faces := range x.faces[:min(len(x.values), len(x.faces))] {
		for _, face := range faces {
			if x.permits(face) {
				number[keyOf(face)] = len(l)
				l = append(l, face)
			}
		}
	}
	return l, number
}

// equations yields the unknowns of each equation: first that of the level 0, whose sum is 1, and then all others.
func (x space) equations(number map[key]int) iter.Seq[[]int] {
	return func(yield func([]int) bool) {
		var first []int
		for _, face := range x.faces[0] {
			if i, ok := number[keyOf(face)]; ok {
				first = append(first, i)
			}
		}
		if !yield(first) {
			return
		}
		above := map[key][]int{}
		for _, faces := range x.faces[1:] {
			for _, face := range faces {
				if i, ok := number[keyOf(face)]; ok {
					for part := range parts(face) {
						above[keyOf(part)] = append(above[keyOf(part)], i)
					}
				}
			}
		}
		for _, faces := range x.faces[:min(len(x.values)-1, len(x.faces))] {
			for _, face := range faces {
				if !x.may(face) {
					continue
				}
				var row []int
				if i, ok := number[keyOf(face)]; ok {
					row = append(row, i)
				}
				if !yield(append(row, above[keyOf(face)]...)) {
					return
				}
			}
		}
	}
}

// parts yields the faces with one view less.
func parts(face []int) iter.Seq[[]int] {
	return func(yield func([]int) bool) {
		for i := range face {
			if !yield(slices.Concat(face[:i], face[i+1:])) {
				return
			}
		}
	}
}

// checkLevel returns the error of the first list of views of a level that has one.
func (x space) checkLevel(k int, level [][]int) api.Errno {
	for i, face := range level {
		if len(face) != k+1 {
			return api.ErrShape
		}
		for _, view := range face {
			if view < 0 || view >= len(x.s.Table.Views) {
				return api.ErrRange
			}
		}
		for j := 1; j < len(face); j++ {
			if face[j] <= face[j-1] {
				return api.ErrOrder
			}
		}
		if x.origins[keyOf(face)] == nil {
			return api.ErrNone
		}
		if i > 0 && slices.Compare(level[i-1], face) >= 0 {
			return api.ErrOrder
		}
	}
	return api.OK
}

// right reports whether levels of faces are a right certificate.
func (x space) right(levels [][][]int) bool {
	if len(levels[0])%2 == 0 {
		return false
	}
	for k, level := range levels {
		if slices.ContainsFunc(level, func(face []int) bool { return !x.permits(face) }) {
			return false
		}
		if k > 0 && !x.linked(levels[k-1], level) {
			return false
		}
	}
	return true
}

// linked reports whether the parts of the faces of a level, as far as they may have all of its labels but the last one, are those of the level before that occur an odd number of times.
func (x space) linked(before, level [][]int) bool {
	odd := map[key]bool{}
	faces := slices.Clone(before)
	for _, face := range level {
		for part := range parts(face) {
			faces = append(faces, part)
		}
	}
	for _, face := range faces {
		odd[keyOf(face)] = !odd[keyOf(face)]
	}
	return !slices.ContainsFunc(faces, func(face []int) bool { return odd[keyOf(face)] && x.may(face) })
}
