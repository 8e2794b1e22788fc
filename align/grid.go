package align

import (
	"chequer/api"
	"chequer/code"
	"chequer/maps"
)

// grid is a sheet that is gone through by rows or by columns.
type grid api.Sheet

func (g grid) height() int {
	return len(g.Rows)
}

func (g grid) width() int {
	return g.Cols
}

func (g grid) rowKey(row int) string {
	return Key(g.Rows[row])
}

// colKey has the empty cells, too: each cell stands beside one of the other sheet's row alike.
func (g grid) colKey(col int) string {
	cells := make([]string, len(g.Rows))
	for i, row := range g.Rows {
		if col < len(row) {
			cells[i] = row[col]
		}
	}
	return string(code.PutList(cells))
}

// axis is a way to go through grids, by method expressions: how many a grid has that way, and the key of each.
type axis struct {
	size func(grid) int
	key  func(grid, int) string
}

func byRows() axis {
	return axis{grid.height, grid.rowKey}
}

func byCols() axis {
	return axis{grid.width, grid.colKey}
}

// keys tells those of a grid, in order.
func (x axis) keys(g grid) []string {
	told := make([]string, x.size(g))
	for i := range told {
		told[i] = x.key(g, i)
	}
	return told
}

// places tells where those of one grid went in another.
func (x axis) places(a, b grid) api.Map {
	return between(x.keys(a), x.keys(b))
}

// alike tells both grids with no other rows than those of a that a map leads to rows of b alike, beside those. Keys are
// made once for each row, however often a map leads to it.
func alike(a, b grid, rows api.Map) (grid, grid) {
	from, to := byRows().keys(a), byRows().keys(b)
	var ours, theirs [][]string
	for i, key := range from {
		j := maps.Image(rows, i)
		if 0 <= j && j < len(to) && key == to[j] {
			ours, theirs = append(ours, a.Rows[i]), append(theirs, b.Rows[j])
		}
	}
	a.Rows, b.Rows = ours, theirs
	return a, b
}
