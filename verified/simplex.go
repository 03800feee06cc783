package verified

import (
	"iter"

	"roundtable/api"
)

// Key is a simplex in a form that maps accept as a key.
type Key [api.MaxDim]api.Vertex

// KeyOf returns the key of a simplex.
func KeyOf(s []api.Vertex) Key {
	var k Key
	for i := copy(k[:], s); i < len(k); i++ {
		k[i] = api.Vertex{Color: -1, Label: -1}
	}
	return k
}

// Faces yields the faces of a simplex with k vertices, in ascending order; each one is overwritten by the next one.
func Faces(s []api.Vertex, k int) iter.Seq[[]api.Vertex] {
	return func(yield func([]api.Vertex) bool) {
		face := make([]api.Vertex, k)
		var extend func(size, from int) bool
		extend = func(size, from int) bool {
			if size == k {
				return yield(face)
			}
			for i := from; i <= len(s)-(k-size); i++ {
				face[size] = s[i]
				if !extend(size+1, i+1) {
					return false
				}
			}
			return true
		}
		extend(0, 0)
	}
}

// Inside reports whether all vertices of a are vertices of b.
func Inside(a, b []api.Vertex) bool {
	i := 0
	for _, v := range b {
		if i < len(a) && a[i] == v {
			i++
		}
	}
	return i == len(a)
}

// Index finds the simplices of a list by their vertices.
type Index struct {
	simplices [][]api.Vertex
	having    map[api.Vertex][]int
}

// NewIndex returns the index of a list of simplices.
func NewIndex(l [][]api.Vertex) Index {
	x := Index{l, map[api.Vertex][]int{}}
	for i, s := range l {
		for _, v := range s {
			x.having[v] = append(x.having[v], i)
		}
	}
	return x
}

// Having yields the positions of the simplices that have a face, in ascending order.
func (x Index) Having(s []api.Vertex) iter.Seq[int] {
	return func(yield func(int) bool) {
		// The rarest vertex leaves the fewest simplices to look at.
		rarest := x.having[s[0]]
		for _, v := range s[1:] {
			if l := x.having[v]; len(l) < len(rarest) {
				rarest = l
			}
		}
		for _, i := range rarest {
			if Inside(s, x.simplices[i]) && !yield(i) {
				return
			}
		}
	}
}

// Contains reports whether a simplex is a face of one of the list.
func (x Index) Contains(s []api.Vertex) bool {
	for range x.Having(s) {
		return true
	}
	return false
}
