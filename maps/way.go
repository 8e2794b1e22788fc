package maps

import "chequer/api"

// climb goes up from new place to new place, past what is gone, below an end.
type climb struct {
	last, end int
}

// goesOn tells whether the next new place is above the last one.
func (c *climb) goesOn(now int) bool {
	if now == gone {
		return true
	}
	ahead := c.last
	c.last = now
	return ahead < now && now < c.end
}

// spot is a place at which one is put in or taken out; its methods tell where the others go.
type spot int

func (s spot) opened(i int) int {
	if i < int(s) {
		return i
	}
	return i + 1
}

func (s spot) closed(i int) int {
	switch {
	case i < int(s):
		return i
	case i == int(s):
		return gone
	}
	return i - 1
}

// way is a map that is gone along.
type way api.Map

func (w way) image(i int) int {
	switch {
	case i < 0:
		return gone
	case i < len(w.To):
		return w.To[i]
	}
	return i - len(w.To) + w.New
}

// isGone is asked of places from 0 on: those behind the old ones never are.
func (w way) isGone(i int) bool {
	return i < len(w.To) && w.To[i] == gone
}

// firstKept tells the first place from lo to hi that is not gone; one above hi: there is none.
func (w way) firstKept(lo, hi int) int {
	for lo <= hi && w.isGone(lo) {
		lo++
	}
	return lo
}

// lastKept tells the last place from lo to hi that is not gone: there is one.
func (w way) lastKept(lo, hi int) int {
	for lo < hi && w.isGone(hi) {
		hi--
	}
	return hi
}

// both is one way behind another.
type both struct {
	first, next way
}

func (b both) image(i int) int {
	return b.next.image(b.first.image(i))
}

// counted tells how many places n counts as.
func counted(n int) int {
	return min(max(n, 0), most)
}

// images tells where each of n places goes.
func images(n int, goes func(int) int) []int {
	to := make([]int, n)
	for i := range to {
		to[i] = goes(i)
	}
	return to
}

// all tells whether something holds of each in a list.
func all(l []int, holds func(int) bool) bool {
	for _, v := range l {
		if !holds(v) {
			return false
		}
	}
	return true
}
