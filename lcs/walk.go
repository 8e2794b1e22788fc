package lcs

// walk goes through both rows of a table, from their beginnings on: i and j are the places in a and b that come next, x
// and y those that were taken.
type walk struct {
	*table
	i, j int
	x, y []int
}

func (w *walk) goesOn() bool {
	return w.i < len(w.a) && w.j < len(w.b)
}

// step tells how the walk goes on.
func (w *walk) step() func() {
	switch {
	case w.a[w.i] == w.b[w.j]:
		return w.takeBoth
	case w.long[w.i+1][w.j] >= w.long[w.i][w.j+1]:
		return w.passA
	}
	return w.passB
}

func (w *walk) takeBoth() {
	w.x = append(w.x, w.i)
	w.y = append(w.y, w.j)
	w.i++
	w.j++
}

func (w *walk) passA() {
	w.i++
}

func (w *walk) passB() {
	w.j++
}
