package move

import (
	"slices"

	"chequer/addr"
	"chequer/api"
	"chequer/maps"
)

// mover moves nodes of a sheet of its own by the shift of each sheet that has one.
type mover struct {
	own    string
	shifts map[string]api.Shift
}

// moverOf goes through the shifts from behind, so that the first one of each sheet is the one that stays.
func moverOf(own string, shifts []api.Shift) mover {
	m := mover{own: own, shifts: map[string]api.Shift{}}
	for _, s := range slices.Backward(shifts) {
		m.shifts[s.Sheet] = s
	}
	return m
}

// node tells what a node is then, its kids in memory of their own.
func (m mover) node(n api.Node) api.Node {
	n.Kids = slices.Clone(n.Kids)
	if n.Kind != api.NRef && n.Kind != api.NRange {
		return n
	}
	shift, ok := m.shifts[m.sheet(n.Ref)]
	if !ok {
		return n
	}
	moved, ok := along(n, shift)
	if !ok {
		return api.Node{Kind: api.NDead}
	}
	return moved
}

// sheet tells which one a reference is of.
func (m mover) sheet(r api.Ref) string {
	if r.Sheet == "" {
		return m.own
	}
	return r.Sheet
}

// along tells where a reference or a range goes with its sheet; false: it is gone.
func along(n api.Node, s api.Shift) (api.Node, bool) {
	switch {
	case s.Gone:
		return api.Node{}, false
	case n.Kind == api.NRange:
		return spanAlong(n, s)
	}
	n.Ref.Row = maps.Image(s.Rows, n.Ref.Row)
	n.Ref.Col = maps.Image(s.Cols, n.Ref.Col)
	return n, addr.May(n.Ref)
}

// spanAlong tells a range from the first place that is left to the last one. As places rise, the last one alone can be too
// far out.
func spanAlong(n api.Node, s api.Shift) (api.Node, bool) {
	var rows, cols bool
	n.Ref.Row, n.To.Row, rows = maps.Span(s.Rows, n.Ref.Row, n.To.Row)
	n.Ref.Col, n.To.Col, cols = maps.Span(s.Cols, n.Ref.Col, n.To.Col)
	return n, rows && cols && addr.May(n.To)
}

// each tells what becomes of each node.
func each(l []api.Node, becomes func(api.Node) api.Node) []api.Node {
	told := make([]api.Node, len(l))
	for i, n := range l {
		told[i] = becomes(n)
	}
	return told
}
