package deps

import (
	"container/heap"

	"chequer/api"
	"chequer/cell"
)

// web is the cells of a book that have formulas, and what hangs on what among them, by their places in a rising list.
type web struct {
	spots []api.Spot
	users [][]int // of each one those that need it
	lacks []int   // of each one how many of those that it needs have not come yet
}

// webOf tells that of a book that may be.
func webOf(b api.Book) *web {
	spots := formulas(b)
	places := make(map[api.Spot]int, len(spots))
	for i, s := range spots {
		places[s] = i
	}
	w := &web{spots: spots, users: make([][]int, len(spots)), lacks: make([]int, len(spots))}
	for i, s := range spots {
		for _, need := range Needs(b, s) {
			if k, ok := places[need]; ok {
				w.users[k] = append(w.users[k], i)
				w.lacks[i]++
			}
		}
	}
	return w
}

// formulas tells the cells of a book that have any; they rise, as the names of its sheets do.
func formulas(b api.Book) []api.Spot {
	var told []api.Spot
	for _, s := range b.Sheets {
		for row, texts := range s.Rows {
			for col, text := range texts {
				if _, ok := cell.Formula(text); ok {
					told = append(told, api.Spot{Sheet: s.Name, Row: row, Col: col})
				}
			}
		}
	}
	return told
}

// unwind tells those that can come, in order, and leaves the others with what they lack.
func (w *web) unwind() []api.Spot {
	var order []api.Spot
	next := w.free()
	for next.Len() > 0 {
		i := heap.Pop(next).(int)
		order = append(order, w.spots[i])
		for _, user := range w.users[i] {
			w.lacks[user]--
			if w.lacks[user] == 0 {
				heap.Push(next, user)
			}
		}
	}
	return order
}

// free tells those that lack nothing.
func (w *web) free() *ready {
	next := &ready{}
	for i, n := range w.lacks {
		if n == 0 {
			heap.Push(next, i)
		}
	}
	return next
}

// stuck tells those that lack something, rising.
func (w *web) stuck() []api.Spot {
	var told []api.Spot
	for i, n := range w.lacks {
		if n > 0 {
			told = append(told, w.spots[i])
		}
	}
	return told
}
