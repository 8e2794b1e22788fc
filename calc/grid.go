package calc

import (
	"chequer/api"
	"chequer/book"
	"chequer/cell"
)

// grid is a book, and its cells' values by sheets, rows and columns.
type grid struct {
	book api.Book
	vals [][][]api.Val
}

// plain tells of each cell the value that it has without the others: formulas have none yet.
func plain(b api.Book) [][][]api.Val {
	return each(b.Sheets, func(s api.Sheet) [][]api.Val {
		return each(s.Rows, func(row []string) []api.Val {
			return each(row, cell.Plain)
		})
	})
}

// put writes the value of a cell that there is.
func (g grid) put(s api.Spot, v api.Val) {
	g.vals[book.Find(g.book, s.Sheet)][s.Row][s.Col] = v
}

// value tells that of a cell by its sheet's place; VNone: there is no such cell.
func (g grid) value(sheet, row, col int) api.Val {
	return nth(nth(nth(g.vals, sheet), row), col)
}

// span tells a range of a sheet as an argument. Its end is cut off where the sheet ends, but not ahead of its beginning:
// a sheet that may not be could end anywhere.
func (g grid) span(sheet int, from, to api.Ref) api.Arg {
	s := g.book.Sheets[sheet]
	rows := max(from.Row, min(to.Row+1, len(s.Rows)))
	cols := max(from.Col, min(to.Col+1, s.Cols))
	told := api.Arg{Range: true, Cols: cols - from.Col}
	told.Vals = make([]api.Val, 0, (rows-from.Row)*told.Cols)
	for row := from.Row; row < rows; row++ {
		for col := from.Col; col < cols; col++ {
			told.Vals = append(told.Vals, g.value(sheet, row, col))
		}
	}
	return told
}

// nth tells what stands at a place of a list; its zero value, where there is no such place.
func nth[T any](l []T, i int) T {
	if i < 0 || i >= len(l) {
		var none T
		return none
	}
	return l[i]
}

// each makes a new list of what is made of each in a list.
func each[T, U any](l []T, made func(T) U) []U {
	told := make([]U, len(l))
	for i, v := range l {
		told[i] = made(v)
	}
	return told
}
