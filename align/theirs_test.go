package align

import (
	"encoding/binary"
	"fmt"
	"slices"
	"strings"
	"testing"

	"chequer/api"
	"chequer/maps"
)

// What the document says of sheets, in another way: rows and columns are held against each other cell by cell, without
// keys; the longest list is looked for from the beginnings on; what is left is counted by how many pairs are ahead of it.

// text tells a map as one text: where the old places went, and how many new ones there are.
func text(m api.Map) string {
	return strings.Trim(fmt.Sprint(m.To), "[]") + "/" + fmt.Sprint(m.New)
}

// dump tells all that is in sheets as one text.
func dump(l ...api.Sheet) string {
	var told []string
	for _, s := range l {
		told = append(told, fmt.Sprintf("%q of %d columns: %q", s.Name, s.Cols, s.Rows))
	}
	return strings.Join(told, " beside ")
}

// filled tells the cells of a row that are not empty.
func filled(row []string) []string {
	return slices.DeleteFunc(slices.Clone(row), func(s string) bool { return s == "" })
}

// theirKey writes those by the library of Go.
func theirKey(row []string) string {
	l := filled(row)
	b := binary.AppendUvarint(nil, uint64(len(l)))
	for _, s := range l {
		b = append(binary.AppendUvarint(b, uint64(len(s))), s...)
	}
	return string(b)
}

// relation tells whether a place of one row and one of another are alike.
type relation func(i, j int) bool

// size tells how much two places leave.
type size func(i, j int) int

// longer tells of places i and j how long the longest list is that what is left there of rows of n and m has in common.
func longer(n, m int, alike relation) size {
	known := map[[2]int]int{}
	var left size
	left = func(i, j int) int {
		if i >= n || j >= m {
			return 0
		}
		told, ok := known[[2]int{i, j}]
		if ok {
			return told
		}
		told = max(left(i+1, j), left(i, j+1))
		if alike(i, j) {
			told = max(told, 1+left(i+1, j+1))
		}
		known[[2]int{i, j}] = told
		return told
	}
	return left
}

// theirPairs tells the place in m of each of n that is in a pair.
func theirPairs(n, m int, alike relation) map[int]int {
	left, told := longer(n, m, alike), map[int]int{}
	for i, j := 0, 0; i < n && j < m; {
		switch {
		case alike(i, j):
			told[i] = j
			i, j = i+1, j+1
		case left(i+1, j) >= left(i, j+1):
			i++
		default:
			j++
		}
	}
	return told
}

// spot is where a place that is left stands: behind so many pairs, as the so-manieth of those left there.
type spot struct{ behind, nth int }

// spots tells that of each of n places that is not taken.
func spots(n int, taken map[int]bool) map[int]spot {
	told, at := map[int]spot{}, spot{}
	for i := range n {
		if taken[i] {
			at = spot{at.behind + 1, 0}
		} else {
			told[i] = at
			at.nth++
		}
	}
	return told
}

// theirPlaces tells where each of n places went among m.
func theirPlaces(n, m int, alike relation) api.Map {
	pairs := theirPairs(n, m, alike)
	takenA, takenB := map[int]bool{}, map[int]bool{}
	for i, j := range pairs {
		takenA[i], takenB[j] = true, true
	}
	left := map[spot]int{}
	for j, at := range spots(m, takenB) {
		left[at] = j
	}
	told, mine := api.Map{New: m}, spots(n, takenA)
	for i := range n {
		if j, ok := pairs[i]; ok {
			told.To = append(told.To, j)
		} else if j, ok := left[mine[i]]; ok {
			told.To = append(told.To, j)
		} else {
			told.To = append(told.To, -1)
		}
	}
	return told
}

func theirRows(a, b api.Sheet) api.Map {
	return theirPlaces(len(a.Rows), len(b.Rows), func(i, j int) bool {
		return slices.Equal(filled(a.Rows[i]), filled(b.Rows[j]))
	})
}

// theirCols tells it by all cells in rows that are alike and that the map leads to: behind its old places, too.
func theirCols(a, b api.Sheet, rows api.Map) api.Map {
	led := map[int]int{}
	for i, row := range a.Rows {
		j := i - len(rows.To) + rows.New
		if i < len(rows.To) {
			j = rows.To[i]
		}
		if j >= 0 && j < len(b.Rows) && slices.Equal(filled(row), filled(b.Rows[j])) {
			led[i] = j
		}
	}
	return theirPlaces(a.Cols, b.Cols, func(col, other int) bool {
		for i, j := range led {
			if a.Rows[i][col] != b.Rows[j][other] {
				return false
			}
		}
		return true
	})
}

// check expects of two sheets what another way tells of them, and what follows from the promises.
func check(t *testing.T, a, b api.Sheet) {
	t.Helper()
	was := dump(a, b)
	for _, row := range slices.Concat(a.Rows, b.Rows) {
		if got, want := Key(row), theirKey(row); got != want {
			t.Fatalf("16.1: Key of %.40q: %.40q, not %.40q", row, got, want)
		}
	}
	rows := Rows(a, b)
	same(t, "16.1: Rows of "+was, rows, theirRows(a, b))
	checkCols(t, a, b, rows)
	s := Sheets(a, b)
	same(t, "16.1: Sheets' Rows of "+was, s.Rows, rows)
	same(t, "16.1: Sheets' Cols of "+was, s.Cols, theirCols(a, b, rows))
	if s.Sheet != a.Name || s.Gone {
		t.Fatalf("16.1: Sheets of %.400s: %q, %v", was, s.Sheet, s.Gone)
	}
	if is := dump(a, b); is != was {
		t.Fatalf("R3: what was handed in was %.400s and is %.400s", was, is)
	}
}

// checkCols does so of Cols by a map.
func checkCols(t *testing.T, a, b api.Sheet, rows api.Map) {
	t.Helper()
	was := text(rows)
	same(t, "16.1: Cols by "+was+" of "+dump(a, b), Cols(a, b, rows), theirCols(a, b, rows))
	if text(rows) != was {
		t.Fatalf("R3: a map that was handed in was %s and is %s", was, text(rows))
	}
}

// same expects a map to be another one, which may be.
func same(t *testing.T, what string, got, want api.Map) {
	t.Helper()
	if text(got) != text(want) {
		t.Fatalf("%.400s: %s, not %s", what, text(got), text(want))
	}
	if !maps.May(got) {
		t.Fatalf("%.400s: %s may not be", what, text(got))
	}
}

// all tells all sheets of so many columns, with so many rows at most, each cell one of those texts.
func all(cols, rows int, texts ...string) []api.Sheet {
	some := [][]string{{}}
	for range cols {
		var next [][]string
		for _, row := range some {
			for _, s := range texts {
				next = append(next, append(slices.Clone(row), s))
			}
		}
		some = next
	}
	told := []api.Sheet{{Name: "A", Cols: cols}}
	for from := 0; rows > 0; rows-- {
		to := len(told)
		for _, s := range told[from:to] {
			for _, row := range some {
				told = append(told, api.Sheet{Name: "A", Cols: cols, Rows: append(slices.Clone(s.Rows), row)})
			}
		}
		from = to
	}
	return told
}

// allMaps tells all that may be, of that many old places and new ones.
func allMaps(old, now int) []api.Map {
	told := []api.Map{{New: now}}
	for range old {
		var next []api.Map
		for _, m := range told {
			least := 0
			for _, place := range m.To {
				least = max(least, place+1)
			}
			next = append(next, api.Map{To: append(slices.Clone(m.To), -1), New: now})
			for place := least; place < now; place++ {
				next = append(next, api.Map{To: append(slices.Clone(m.To), place), New: now})
			}
		}
		told = next
	}
	return told
}

// dice tells numbers that look like any, the same ones in every run.
type dice uint64

func (d *dice) below(n int) int {
	*d = *d*6364136223846793005 + 1442695040888963407
	return int(uint64(*d)>>33) % n
}

// row tells one of size cells: one of those texts, or empty as often as not.
func (d *dice) row(size int, texts []string) []string {
	l := make([]string, size)
	for i := range l {
		if d.below(2) == 0 {
			l[i] = texts[d.below(len(texts))]
		}
	}
	return l
}

// sheet tells one of any size, of those texts.
func (d *dice) sheet(texts []string) api.Sheet {
	s := api.Sheet{Name: "B", Cols: d.below(api.MaxCols + 1)}
	for range d.below(api.MaxRows + 1) {
		s.Rows = append(s.Rows, d.row(s.Cols, texts))
	}
	return s
}

// chart tells a map that may be, of that many old places and new ones.
func (d *dice) chart(old, now int) api.Map {
	m := api.Map{New: now}
	least := 0
	for range old {
		if place := least + d.below(3); place < now && d.below(3) > 0 {
			m.To, least = append(m.To, place), place+1
		} else {
			m.To = append(m.To, -1)
		}
	}
	return m
}
