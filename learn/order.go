package learn

// order is a heap of variables: the one with the greatest activity is the first one, and of equal ones the least.
type order struct {
	activity []int
	heap     []int
	// places has the place of each variable in the heap, -1 for those that are not in it.
	places []int
}

// newOrder returns the order with all variables.
func newOrder(vars int) *order {
	o := &order{activity: make([]int, vars+1), places: make([]int, vars+1)}
	for v := 1; v <= vars; v++ {
		o.places[v] = len(o.heap)
		o.heap = append(o.heap, v)
	}
	return o
}

func (o *order) before(v, w int) bool {
	return o.activity[v] > o.activity[w] || o.activity[v] == o.activity[w] && v < w
}

func (o *order) set(place, v int) {
	o.heap[place] = v
	o.places[v] = place
}

// up moves a variable up to its place.
func (o *order) up(place int) {
	v := o.heap[place]
	for place > 0 && o.before(v, o.heap[(place-1)/2]) {
		o.set(place, o.heap[(place-1)/2])
		place = (place - 1) / 2
	}
	o.set(place, v)
}

// down moves a variable down to its place.
func (o *order) down(place int) {
	v := o.heap[place]
	for {
		child := 2*place + 1
		if child >= len(o.heap) {
			break
		}
		if child+1 < len(o.heap) && o.before(o.heap[child+1], o.heap[child]) {
			child++
		}
		if !o.before(o.heap[child], v) {
			break
		}
		o.set(place, o.heap[child])
		place = child
	}
	o.set(place, v)
}

// push puts a variable into the heap, unless it is there.
func (o *order) push(v int) {
	if o.places[v] >= 0 {
		return
	}
	o.heap = append(o.heap, v)
	o.places[v] = len(o.heap) - 1
	o.up(len(o.heap) - 1)
}

// pop takes the first variable out of the heap, and returns 0 if there is none.
func (o *order) pop() int {
	if len(o.heap) == 0 {
		return 0
	}
	v := o.heap[0]
	last := o.heap[len(o.heap)-1]
	o.heap = o.heap[:len(o.heap)-1]
	o.places[v] = -1
	if last != v {
		o.set(0, last)
		o.down(0)
	}
	return v
}

// raise adds to the activity of a variable.
func (o *order) raise(v, by int) {
	o.activity[v] += by
	if o.places[v] >= 0 {
		o.up(o.places[v])
	}
}

// lower divides all activities by a power of 2, which may make some of them equal.
func (o *order) lower(bits int) {
	for v := range o.activity {
		o.activity[v] >>= bits
	}
	for place := len(o.heap) - 1; place >= 0; place-- {
		o.down(place)
	}
}
