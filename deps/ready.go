package deps

import "sort"

// ready is a heap of the places of what could come next. The list of all rises, so the least place is the least cell.
type ready struct {
	sort.IntSlice
}

// Push is called by container/heap alone.
func (r *ready) Push(place any) {
	r.IntSlice = append(r.IntSlice, place.(int))
}

// Pop is called by container/heap alone.
func (r *ready) Pop() any {
	last := r.Len() - 1
	place := r.IntSlice[last]
	r.IntSlice = r.IntSlice[:last]
	return place
}
