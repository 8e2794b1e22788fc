package align

import (
	"chequer/api"
	"chequer/lcs"
)

// gone stands where an old place has no new one.
const gone = -1

// road goes along old and new places side by side: to is where those old ones went that it came by, now is the new one
// that comes next.
type road struct {
	to  []int
	now int
}

// between tells where each of a's keys went in b: pairs first, then those that are left between them.
func between(a, b []string) api.Map {
	r := &road{to: make([]int, 0, len(a))}
	x, y := lcs.Pairs(a, b)
	for k := range x {
		r.goUpTo(x[k], y[k])
		r.lay()
	}
	r.goUpTo(len(a), len(b))
	return api.Map{To: r.to, New: len(b)}
}

// goUpTo goes to two places past those ahead of them: the first went to the first, and so on, as far as both go.
func (r *road) goUpTo(old, now int) {
	for len(r.to) < old && r.now < now {
		r.lay()
	}
	for len(r.to) < old {
		r.to = append(r.to, gone)
	}
	r.now = now
}

// lay leads the next old place to the next new one.
func (r *road) lay() {
	r.to = append(r.to, r.now)
	r.now++
}
