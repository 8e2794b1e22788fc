package book

import (
	"slices"

	"chequer/addr"
	"chequer/api"
	"chequer/cell"
)

// grid is what a sheet's rows must fit in.
type grid struct {
	cols int
}

// fits tells whether a row may stand in it.
func (g grid) fits(row []string) bool {
	return len(row) == g.cols && all(row, cell.May)
}

// climb goes from name to name; it begins with an empty one, which is below all others.
type climb struct {
	last string
}

// goesOn tells whether a sheet's name is above the one ahead of it.
func (c *climb) goesOn(s api.Sheet) bool {
	ahead := c.last
	c.last = s.Name
	return ahead < s.Name
}

// wanted is the name of a sheet that is looked for.
type wanted string

func (w wanted) is(s api.Sheet) bool {
	return s.Name == string(w)
}

// sheetMay tells of a sheet by itself whether it may be.
func sheetMay(s api.Sheet) bool {
	return addr.Name(s.Name) && 0 <= s.Cols && s.Cols <= api.MaxCols && len(s.Rows) <= api.MaxRows &&
		all(s.Rows, grid{s.Cols}.fits)
}

func sameSheet(a, b api.Sheet) bool {
	return a.Name == b.Name && a.Cols == b.Cols && slices.EqualFunc(a.Rows, b.Rows, slices.Equal[[]string])
}

// copySheet needs no more than new rows: nobody can write into a name or a cell's text.
func copySheet(s api.Sheet) api.Sheet {
	s.Rows = each(s.Rows, slices.Clone[[]string])
	return s
}

// all tells whether something holds of each in a list.
func all[T any](l []T, holds func(T) bool) bool {
	for _, v := range l {
		if !holds(v) {
			return false
		}
	}
	return true
}

// each makes a new list of what is made of each in a list.
func each[T any](l []T, made func(T) T) []T {
	told := make([]T, len(l))
	for i, v := range l {
		told[i] = made(v)
	}
	return told
}

// has tells whether there is a place i in a list.
func has[T any](l []T, i int) bool {
	return 0 <= i && i < len(l)
}
