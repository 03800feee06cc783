package complex

import (
	"slices"

	"roundtable/api"
	"roundtable/simplex"
	"roundtable/verified"
)

// checkPair returns the error of the first of two complexes that is not well-formed.
func checkPair(c, d api.Complex) api.Errno {
	if e := Check(c); e != api.OK {
		return e
	}
	return Check(d)
}

// checkMember returns the error of a complex, or of a simplex that it has to have.
func checkMember(c api.Complex, s []api.Vertex) api.Errno {
	ok, e := Contains(c, s)
	if e == api.OK && !ok {
		return api.ErrNone
	}
	return e
}

// of returns the complex of some simplices, as new memory.
func of(l [][]api.Vertex) api.Complex {
	sorted := slices.Clone(l)
	slices.SortFunc(sorted, simplex.Compare)
	sorted = slices.CompactFunc(sorted, slices.Equal[[]api.Vertex])
	return api.Complex{Facets: verified.Clone(maximal(sorted))}
}

// bounded returns a complex, if it has not too many facets.
func bounded(c api.Complex) (api.Complex, api.Errno) {
	if len(c.Facets) > api.MaxFacets {
		return api.Complex{}, api.ErrMany
	}
	return c, api.OK
}

// maximal returns those of different simplices that are not a face of another one.
func maximal(l [][]api.Vertex) [][]api.Vertex {
	longest := 0
	for _, s := range l {
		longest = max(longest, len(s))
	}
	index := verified.NewIndex(l)
	return filter(l, func(s []api.Vertex) bool {
		if len(s) == longest {
			return true
		}
		for i := range index.Having(s) {
			if len(l[i]) > len(s) {
				return false
			}
		}
		return true
	})
}

// faces returns the different faces with k vertices of some simplices, in ascending order; false if there are more than a number of them that is not negative.
func faces(l [][]api.Vertex, k, most int) ([][]api.Vertex, bool) {
	found := map[verified.Key]bool{}
	var all [][]api.Vertex
	for _, s := range l {
		if len(s) < k {
			continue
		}
		for face := range verified.Faces(s, k) {
			if key := verified.KeyOf(face); !found[key] {
				found[key] = true
				all = append(all, slices.Clone(face))
				if most >= 0 && len(all) > most {
					return nil, false
				}
			}
		}
	}
	slices.SortFunc(all, simplex.Compare)
	return all, true
}

// filter returns the elements of a list that satisfy a condition.
func filter[T any](l []T, holds func(T) bool) []T {
	var chosen []T
	for _, x := range l {
		if holds(x) {
			chosen = append(chosen, x)
		}
	}
	return chosen
}

// having returns the facets with a face.
func having(c api.Complex, s []api.Vertex) [][]api.Vertex {
	return filter(c.Facets, func(f []api.Vertex) bool { return verified.Inside(s, f) })
}

func contains(c api.Complex, s []api.Vertex) bool { return len(having(c, s)) > 0 }

// dimension returns the dimension of a complex, and whether it is pure.
func dimension(c api.Complex) (int, bool) {
	d, pure := -1, true
	for i, f := range c.Facets {
		pure = pure && (i == 0 || len(f) == d+1)
		d = max(d, len(f)-1)
	}
	return d, pure
}

// vertexSet returns the set of all vertices.
func vertexSet(c api.Complex) map[api.Vertex]bool {
	set := map[api.Vertex]bool{}
	for _, f := range c.Facets {
		for _, v := range f {
			set[v] = true
		}
	}
	return set
}
