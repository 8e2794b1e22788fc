package deps

import (
	"cmp"
	"slices"

	"chequer/api"
)

// area is what a reference or a range names: cells of a sheet from a first row and column to a last one.
type area struct {
	sheet       string
	first, last api.Ref
}

func (a area) hasRow(row int) bool {
	return a.first.Row <= row && row <= a.last.Row
}

func (a area) hasCol(col int) bool {
	return a.first.Col <= col && col <= a.last.Col
}

// areas are those that one formula names.
type areas []area

// areasOf tells those of a formula's nodes; own is the sheet of those that name none.
func areasOf(l []api.Node, own string) areas {
	var named areas
	for _, n := range l {
		sheet := cmp.Or(n.Ref.Sheet, own)
		switch n.Kind {
		case api.NRef:
			named = append(named, area{sheet, n.Ref, n.Ref})
		case api.NRange:
			named = append(named, area{sheet, n.Ref, n.To})
		}
	}
	return named
}

// sheets tells the names of their sheets, rising, each once.
func (l areas) sheets() []string {
	var names []string
	for _, a := range l {
		names = append(names, a.sheet)
	}
	slices.Sort(names)
	return slices.Compact(names)
}

// on tells those of one sheet.
func (l areas) on(sheet string) areas {
	return l.those(func(a area) bool { return a.sheet == sheet })
}

// over tells those that have cells of a row.
func (l areas) over(row int) areas {
	return l.those(func(a area) bool { return a.hasRow(row) })
}

func (l areas) those(are func(area) bool) areas {
	var told areas
	for _, a := range l {
		if are(a) {
			told = append(told, a)
		}
	}
	return told
}

// cells tells the cells of their sheet that they have, rising. It goes through the sheet, so that each comes once,
// however many areas have it; rows and columns that no reference can name are not asked.
func (l areas) cells(s api.Sheet) []api.Spot {
	var told []api.Spot
	for row, texts := range upTo(s.Rows, api.MaxRow) {
		here := l.over(row)
		for col := range upTo(texts, api.MaxCol) {
			if slices.ContainsFunc(here, func(a area) bool { return a.hasCol(col) }) {
				told = append(told, api.Spot{Sheet: s.Name, Row: row, Col: col})
			}
		}
	}
	return told
}

// upTo tells a list without what is behind its place last.
func upTo[T any](l []T, last int) []T {
	return l[:min(len(l), last+1)]
}
