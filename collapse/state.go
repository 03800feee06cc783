package collapse

import (
	"slices"

	"roundtable/api"
	"roundtable/simplex"
	"roundtable/verified"
)

// facets is a complex that is collapsed step by step: the numbers of vertices of its facets, and the facets that have a vertex.
type facets struct {
	sizes  map[verified.Key]int
	having map[api.Vertex]map[verified.Key]int
}

func newFacets(c api.Complex) facets {
	f := facets{map[verified.Key]int{}, map[api.Vertex]map[verified.Key]int{}}
	for _, s := range c.Facets {
		f.add(s)
	}
	return f
}

func (f facets) add(s []api.Vertex) {
	k := verified.KeyOf(s)
	f.sizes[k] = len(s)
	for _, v := range s {
		if f.having[v] == nil {
			f.having[v] = map[verified.Key]int{}
		}
		f.having[v][k] = len(s)
	}
}

func (f facets) remove(s []api.Vertex) {
	k := verified.KeyOf(s)
	delete(f.sizes, k)
	for _, v := range s {
		delete(f.having[v], k)
	}
}

// inside reports whether a simplex is a face of a facet.
func (f facets) inside(s []api.Vertex) bool {
	rarest := f.having[s[0]]
	for _, v := range s[1:] {
		if l := f.having[v]; len(l) < len(rarest) {
			rarest = l
		}
	}
	for k, size := range rarest {
		if verified.Inside(s, k[:size]) {
			return true
		}
	}
	return false
}

// collapse applies a collapse; it returns false if it is not an elementary one.
func (f facets) collapse(x api.Collapse) bool {
	if len(x.Face) == 0 || len(x.Coface) != len(x.Face)+1 || len(x.Coface) > api.MaxDim || !verified.Inside(x.Face, x.Coface) {
		return false
	}
	if size, ok := f.sizes[verified.KeyOf(x.Coface)]; !ok || size != len(x.Coface) {
		return false
	}
	f.remove(x.Coface)
	if f.inside(x.Face) {
		return false
	}
	for s := range smaller(x.Coface) {
		if !slices.Equal(s, x.Face) && !f.inside(s) {
			f.add(s)
		}
	}
	return true
}

// complex returns the complex of the facets.
func (f facets) complex() api.Complex {
	var c api.Complex
	for k, size := range f.sizes {
		c.Facets = append(c.Facets, slices.Clone(k[:size]))
	}
	slices.SortFunc(c.Facets, simplex.Compare)
	return c
}

// lattice knows for all simplices of a complex, in ascending order, how many of those that are left have them as a face with one vertex less, and the sum of their positions.
type lattice struct {
	simplices [][]api.Vertex
	position  map[verified.Key]int
	left      []bool
	cofaces   []int
	sum       []int
}

func newLattice(l [][]api.Vertex) *lattice {
	x := &lattice{l, map[verified.Key]int{}, slices.Repeat([]bool{true}, len(l)), make([]int, len(l)), make([]int, len(l))}
	for i, s := range l {
		x.position[verified.KeyOf(s)] = i
	}
	for i, s := range l {
		for face := range smaller(s) {
			k := x.position[verified.KeyOf(face)]
			x.cofaces[k]++
			x.sum[k] += i
		}
	}
	return x
}

func (x *lattice) remove(i int) {
	x.left[i] = false
	for face := range smaller(x.simplices[i]) {
		k := x.position[verified.KeyOf(face)]
		x.cofaces[k]--
		x.sum[k] -= i
	}
}

// reduce applies the first collapse as long as there is one, and returns the simplices that are left.
func (x *lattice) reduce() ([][]api.Vertex, []api.Collapse) {
	var applied []api.Collapse
	for i := 0; i < len(x.simplices); i++ {
		// With a single coface, that one is a facet: otherwise there would be a second one in it.
		if !x.left[i] || x.cofaces[i] != 1 {
			continue
		}
		coface := x.sum[i]
		applied = append(applied, api.Collapse{Face: slices.Clone(x.simplices[i]), Coface: slices.Clone(x.simplices[coface])})
		x.remove(coface)
		x.remove(i)
		// The next one may stand before this one.
		i = -1
	}
	var rest [][]api.Vertex
	for i, s := range x.simplices {
		if x.left[i] {
			rest = append(rest, s)
		}
	}
	return rest, applied
}
