package align

import (
	"fmt"
	"slices"
	"strconv"
	"strings"
	"testing"

	"chequer/api"
	"chequer/maps"
)

// written tells a sheet: how many columns, then its rows, a letter a cell, `.` for an empty one, `_` for a row of none.
func written(s string) api.Sheet {
	words := strings.Fields(s)
	cols, _ := strconv.Atoi(words[0])
	told := api.Sheet{Name: "S", Cols: cols}
	for _, word := range words[1:] {
		row := []string{}
		for _, letter := range strings.Trim(word, "_") {
			row = append(row, strings.Trim(string(letter), "."))
		}
		told.Rows = append(told.Rows, row)
	}
	return told
}

// expect wants of two sheets, written as `a|b`, where rows and columns went, as `rows|columns`.
func expect(t *testing.T, want map[string]string) {
	t.Helper()
	for sheets, told := range want {
		left, right, ok := strings.Cut(sheets, "|")
		if !ok {
			t.Fatal("no two sheets:", sheets)
		}
		a, b := written(left), written(right)
		check(t, a, b)
		s := Sheets(a, b)
		if got := text(s.Rows) + "|" + text(s.Cols); got != told {
			t.Errorf("16.1: %s: %s, not %s", sheets, got, told)
		}
	}
}

// numbered tells a sheet of so many columns and rows, all cells unlike.
func numbered(cols, rows int) api.Sheet {
	s := api.Sheet{Name: "S", Cols: cols}
	for i := range rows {
		row := make([]string, cols)
		for k := range row {
			row[k] = fmt.Sprint(100*i + k)
		}
		s.Rows = append(s.Rows, row)
	}
	return s
}

// copied tells a sheet in memory of its own.
func copied(s api.Sheet) api.Sheet {
	rows := slices.Clone(s.Rows)
	for i := range rows {
		rows[i] = slices.Clone(rows[i])
	}
	return api.Sheet{Name: strings.Clone(s.Name), Cols: s.Cols, Rows: rows}
}

func withRow(s api.Sheet, at int, row []string) api.Sheet {
	s = copied(s)
	s.Rows = slices.Insert(s.Rows, at, row)
	return s
}

func withoutRow(s api.Sheet, at int) api.Sheet {
	s = copied(s)
	s.Rows = slices.Delete(s.Rows, at, at+1)
	return s
}

// withCol tells a sheet with a new column of cells, one for each row.
func withCol(s api.Sheet, at int, cells []string) api.Sheet {
	s = copied(s)
	s.Cols++
	for i := range s.Rows {
		s.Rows[i] = slices.Insert(s.Rows[i], at, cells[i])
	}
	return s
}

func withoutCol(s api.Sheet, at int) api.Sheet {
	s = copied(s)
	s.Cols--
	for i := range s.Rows {
		s.Rows[i] = slices.Delete(s.Rows[i], at, at+1)
	}
	return s
}

func withCell(s api.Sheet, row, col int, text string) api.Sheet {
	s = copied(s)
	s.Rows[row][col] = text
	return s
}

// went expects of two sheets that rows and columns went by those maps.
func went(t *testing.T, a, b api.Sheet, rows, cols api.Map) {
	t.Helper()
	check(t, a, b)
	s := Sheets(a, b)
	same(t, "16.1: rows of "+dump(a, b), s.Rows, rows)
	same(t, "16.1: columns of "+dump(a, b), s.Cols, cols)
}

func TestExample(t *testing.T) {
	expect(t, map[string]string{
		"2 ab cd ef|2 ab xy cd ef": "0 2 3/4|0 1/2",
		"2 ab cd ef|2 ab cx ef":    "0 1 2/3|0 1/2",
	})
}

// 16.1: Key's bytes, written out.
func TestKey(t *testing.T) {
	long := strings.Repeat("x", 300)
	for _, c := range []struct {
		row  []string
		want string
	}{
		{nil, "\x00"}, {[]string{}, "\x00"}, {[]string{""}, "\x00"}, {[]string{"", "", ""}, "\x00"}, {slices.Repeat([]string{""}, 300), "\x00"},
		{[]string{"a"}, "\x01\x01a"}, {[]string{"", "a"}, "\x01\x01a"}, {[]string{"a", ""}, "\x01\x01a"}, {[]string{"", "", "a", "", ""}, "\x01\x01a"},
		{[]string{"a", "b"}, "\x02\x01a\x01b"}, {[]string{"a", "", "b"}, "\x02\x01a\x01b"}, {[]string{"", "a", "", "", "b", ""}, "\x02\x01a\x01b"}, {[]string{"b", "a"}, "\x02\x01b\x01a"}, {[]string{"a", "a"}, "\x02\x01a\x01a"}, {[]string{"ab"}, "\x01\x02ab"}, {[]string{"a", "bc"}, "\x02\x01a\x02bc"}, {[]string{"ab", "c"}, "\x02\x02ab\x01c"}, {[]string{"c", "b", "a", "b"}, "\x04\x01c\x01b\x01a\x01b"},
		{[]string{" "}, "\x01\x01 "}, {[]string{"'"}, "\x01\x01'"}, {[]string{"0"}, "\x01\x010"}, {[]string{"="}, "\x01\x01="}, {[]string{"\x00"}, "\x01\x01\x00"}, {[]string{"\x01a"}, "\x01\x02\x01a"}, {[]string{"\xff\xfe"}, "\x01\x02\xff\xfe"}, {[]string{"é"}, "\x01\x02\xc3\xa9"}, {[]string{"A", "a"}, "\x02\x01A\x01a"},
		{[]string{long}, "\x01\xac\x02" + long}, {[]string{"", long[:128], ""}, "\x01\x80\x01" + long[:128]}, {[]string{long[:127]}, "\x01\x7f" + long[:127]}, {slices.Repeat([]string{"", "a"}, 150), "\x96\x01" + strings.Repeat("\x01a", 150)},
	} {
		if got := Key(c.row); got != c.want || got != theirKey(c.row) {
			t.Errorf("16.1: Key of %.40q: %.40q, not %.40q", c.row, got, c.want)
		}
	}
}

// 16.1: rows put in, taken away, changed, moved, one alone.
func TestRows(t *testing.T) {
	expect(t, map[string]string{
		// Put in.
		"1 a b c|1 x a b c": "1 2 3/4|0/1", "1 a b c|1 a x b c": "0 2 3/4|0/1", "1 a b c|1 a b c x": "0 1 2/4|0/1", "1 a|1 x a y": "1/3|0/1", "1 a b|1 a x y z b": "0 4/5|0/1",
		// Taken away.
		"1 a b c|1 b c": "-1 0 1/2|0/1", "1 a b c|1 a c": "0 -1 1/2|0/1", "1 a b c|1 a b": "0 1 -1/2|0/1", "1 a b c|1 b": "-1 0 -1/1|0/1", "1 a b c d e|1 a e": "0 -1 -1 -1 1/2|0/1",
		// Changed.
		"1 a b c|1 x b c": "0 1 2/3|0/1", "1 a b c|1 a x c": "0 1 2/3|0/1", "1 a b c|1 a b x": "0 1 2/3|0/1", "1 a b c|1 x b y": "0 1 2/3|0/1", "1 a b c d|1 a x y d": "0 1 2 3/4|0/1", "1 a|1 x": "0/1|0/1",
		// Moved.
		"1 a b c|1 c a b": "1 2 -1/3|0/1", "1 a b c|1 b c a": "-1 0 1/3|0/1", "1 a b|1 b a": "-1 0/2|0/1", "1 a b c d|1 a d b c": "0 2 3 -1/4|0/1", "1 a b c d|1 b c a d": "-1 0 1 3/4|0/1", "1 a b c|1 c b a": "-1 -1 0/3|0/1", "1 a b x|1 c a b": "1 2 -1/3|0/1",
	})
}

// 16.1: several at once, and those that are left: ahead of the first pair, between two, behind the last, as many of a's as
// of b's, more of a's, more of b's; without a pair all of them.
func TestRowsLeft(t *testing.T) {
	expect(t, map[string]string{
		// Ahead of the first pair.
		"1 a b z|1 x y z": "0 1 2/3|0/1", "1 a b c z|1 x z": "0 -1 -1 1/2|0/1", "1 a b c z|1 x y z": "0 1 -1 2/3|0/1", "1 a z|1 w x y z": "0 3/4|0/1", "1 a b z|1 w x y z": "0 1 3/4|0/1",
		// Between two.
		"1 p a b z|1 p x y z": "0 1 2 3/4|0/1", "1 p a b c z|1 p x z": "0 1 -1 -1 2/3|0/1", "1 p a b c z|1 p x y z": "0 1 2 -1 3/4|0/1", "1 p a z|1 p w x y z": "0 1 4/5|0/1", "1 p a b z|1 p w x y z": "0 1 2 4/5|0/1",
		// Behind the last.
		"1 p a b|1 p x y": "0 1 2/3|0/1", "1 p a b c|1 p x": "0 1 -1 -1/2|0/1", "1 p a b c|1 p x y": "0 1 2 -1/3|0/1", "1 p a|1 p w x y": "0 1/4|0/1", "1 p a b|1 p w x y": "0 1 2/4|0/1",
		// Without a pair.
		"1 a b c|1 x y z": "0 1 2/3|0/1", "1 a b c|1 x": "0 -1 -1/1|0/1", "1 a b c|1 x y": "0 1 -1/2|0/1", "1 a|1 x y z": "0/3|0/1", "1 a b|1 x y z": "0 1/3|0/1",
		// Several at once: what is left in one place goes to no other one.
		"1 a b p c q d|1 p x y q z w": "-1 -1 0 1 3 4/6|0/1", "1 p a q|1 x p q y": "1 -1 2/4|0/1", "1 a p q b|1 p x q": "-1 0 2 -1/3|0/1", "1 a b p c|1 x p y z": "0 -1 1 2/4|0/1", "1 a p b c q d e f|1 w x p y q z": "0 2 3 -1 4 5 -1 -1/6|0/1", "1 a p b q c|1 p q": "-1 0 -1 1 -1/2|0/1", "1 p q|1 a p b q c": "1 3/5|0/1", "1 a b c d|1 x b y z d w": "0 1 2 4/6|0/1", "1 1 2 3 4|1 5 2 6 7 4": "0 1 2 4/5|0/1",
	})
}

// 16.1: rows alike several times.
func TestRowsTwice(t *testing.T) {
	expect(t, map[string]string{
		"1 a a a|1 a a": "0 1 -1/2|0/1", "1 a a|1 a a a": "0 1/3|0/1", "1 a a a|1 a x a": "0 1 2/3|0/1", "1 a x a|1 a a": "0 -1 1/2|0/1", "1 a b a|1 a": "0 -1 -1/1|0/1", "1 a|1 b a a": "1/3|0/1", "1 a b a b|1 b a b a": "-1 0 1 2/4|0/1", "1 a a b b|1 a b b b": "0 -1 1 2/4|0/1", "1 x a a|1 y a": "0 -1 1/2|0/1", "1 x a|1 y a a": "0 1/3|0/1",
		"2 ab ab ab|2 ab ab": "0 1 -1/2|0 1/2", "2 ab ba ab|2 ab ab": "0 -1 1/2|0 1/2",
	})
}

// 16.1: rows are alike by what is not empty, in order: where empty cells stand, and how many, does not matter.
func TestRowsEmptyCells(t *testing.T) {
	expect(t, map[string]string{
		"3 a.b ... c..|2 ab .c": "0 -1 1/2|0 1 -1/2", "3 a.b ... c..|2 ab c.": "0 -1 1/2|0 -1 1/2", "2 ab|3 a.b": "0/1|0 2/3", "3 .a. b.c ...|3 a.. bc. xyz": "0 1 2/3|0 -1 1/3", "2 a. .a|2 .a a.": "0 1/2|-1 0/2", "3 ab. .cd|3 .ab cd.": "0 1/2|0 1 2/3", "2 ab|2 ba": "0/1|0 1/2",
		"2 .. ..|2 .. ..": "0 1/2|0 1/2", "3 ... ...|1 . . .": "0 1/3|0 -1 -1/1", "1 . a|2 aa ..": "1 -1/2|0/2", "2 a. ..|2 .. .a": "-1 0/2|0 1/2", "1 . a .|1 a . .": "-1 0 1/3|0/1", "1 a . b|1 a b": "0 -1 1/2|0/1", "1 a b|1 a . b": "0 2/3|0/1", "2 .. a. ..|2 .x": "0 -1 -1/1|0 1/2", "2 .. a. ..|2 .a": "-1 0 -1/1|-1 0/2",
		"2 aa a.|2 .a aa": "-1 0/2|-1 0/2", "3 aab|3 a.b": "0/1|0 1 2/3", "3 aab aba|3 aa. ab.": "0 1/2|0 1 2/3",
	})
}

// 16.1: columns put in, taken away, changed, moved: by the rows that are alike.
func TestCols(t *testing.T) {
	expect(t, map[string]string{
		// Put in, empty.
		"3 abc def|4 .abc .def": "0 1/2|1 2 3/4", "3 abc def|4 a.bc d.ef": "0 1/2|0 2 3/4", "3 abc def|4 abc. def.": "0 1/2|0 1 2/4", "2 ab|5 .a.b.": "0/1|1 3/5", "2 aa bb|3 a.a b.b": "0 1/2|0 2/3", "2 aa bb|3 .aa .bb": "0 1/2|1 2/3",
		// Put in, with something in it: where a row has it, it is changed.
		"2 ab cd|3 a.b cxd": "0 1/2|0 2/3", "2 ab cd|3 axb c.d": "0 1/2|0 2/3", "2 ab cd|3 axb cyd": "0 1/2|0 1/3", "2 ab cd ef|3 .ab .cd xef": "0 1 2/3|1 2/3",
		// Taken away.
		"3 .ab .cd|2 ab cd": "0 1/2|-1 0 1/2", "3 a.b c.d|2 ab cd": "0 1/2|0 -1 1/2", "3 ab. cd.|2 ab cd": "0 1/2|0 1 -1/2", "3 a.b cxd|2 ab cd": "0 1/2|0 -1 1/2", "3 abc def|2 ac df": "0 1/2|0 1 -1/2", "3 a.. b..|1 a b": "0 1/2|0 -1 -1/1", "3 ..a ..b|1 a b": "0 1/2|-1 -1 0/1",
		// Changed.
		"2 ab cd|2 ab cx": "0 1/2|0 1/2", "3 abc def|3 abc dxf": "0 1/2|0 1 2/3", "3 a.b d.f|3 a.b dxf": "0 1/2|0 1 2/3", "2 ab cd|2 xb yd": "0 1/2|0 1/2", "2 a. b.|2 a. bx": "0 1/2|0 1/2",
		// Moved, past empty cells.
		"3 a.b c.d|3 ab. cd.": "0 1/2|0 -1 1/3", "3 ab. cd.|3 a.b c.d": "0 1/2|0 -1 1/3", "3 .ab .cd|3 a.b c.d": "0 1/2|-1 0 2/3", "2 a. .b|2 .a b.": "0 1/2|-1 0/2", "3 a.. .b.|3 .a. b..": "0 1/2|-1 0 2/3",
	})
}

// 16.1: columns that are left, ahead of the first pair, between two, behind the last.
func TestColsLeft(t *testing.T) {
	expect(t, map[string]string{
		// Of rows alike the first cells are in unlike columns: those are left.
		"3 a.z .bz|3 .az b.z": "0 1/2|-1 0 2/3", "2 az bz|3 a.z .bz": "0 1/2|0 2/3", "3 a.z .bz|2 az bz": "0 1/2|0 -1 1/2", "3 za. z.b|2 za zb": "0 1/2|0 1 -1/2", "2 za zb|3 za. z.b": "0 1/2|0 1/3", "4 za.y z.by|3 zay zby": "0 1/2|0 1 -1 2/3", "3 zay zby|4 za.y z.by": "0 1/2|0 1 3/4", "4 pa.q p.bq|4 p.aq pb.q": "0 1/2|0 -1 1 3/4", "3 ab. c.d|2 ab cd": "0 1/2|0 1 -1/2", "3 a.. .b. ..c|1 a b c": "0 1 2/3|0 -1 -1/1",
		// More of a's than of b's, and the other way round, on both sides of a pair.
		"5 a.zc. .bz.d|3 azc bzd": "0 1/2|0 -1 1 2 -1/3", "3 azc bzd|5 a.zc. .bz.d": "0 1/2|0 2 3/5", "4 a.zc .bzd|4 aczd": "0 -1/1|0 1 2 3/4", "2 ab cd|2 a. cd": "0 1/2|0 1/2", "5 a.bzc d..ze|4 abzc d.ze": "0 1/2|0 -1 1 2 3/4",
	})
}

// 16.1: only rows that are alike are asked: without one, columns go in order, as far as both go.
func TestColsByRowsAlike(t *testing.T) {
	expect(t, map[string]string{
		"2 ab|2 xy": "0/1|0 1/2", "3 abc|2 xy": "0/1|0 1 -1/2", "2 ab|3 xyz": "0/1|0 1/3", "3 a.b|2 ax": "0/1|0 1 -1/2", "2 ab|3 x.b": "0/1|0 1/3", "2 ab cd|3 .ax .cx": "0 1/2|0 1/3",
		// One row alike tells where columns went, whatever the others have.
		"3 abc def ghi|4 abcx d.ef ghiy": "0 1 2/3|0 2 3/4", "3 abc def ghi|3 abc xyz ghi": "0 1 2/3|0 1 2/3", "3 abc xdy|4 .abc xydz": "0 1/2|1 2 3/4", "2 ab xy cd|3 .ab cd.": "0 -1 1/2|0 1/3", "2 .a .b xy|2 a. b. .z": "0 1 2/3|-1 0/2",
		// Rows that went along: those are asked, not the ones beside.
		"2 ab cd|3 xyz a.b c.d": "1 2/3|0 2/3", "3 xyz a.b c.d|2 ab cd": "-1 0 1/2|0 -1 1/2", "2 ab cd|3 c.d a.b": "-1 0/2|0 2/3",
		// Empty rows are alike, too, and tell nothing of any column.
		"2 .. ab|3 ... xyz": "0 1/2|0 1/3", "3 ... abc|2 .. ac": "0 1/2|0 1 -1/2",
	})
}

// 16.1: no rows, no columns, on either side and on both.
func TestNone(t *testing.T) {
	expect(t, map[string]string{
		"0|0": "/0|/0", "0|3": "/0|/3", "3|0": "/0|-1 -1 -1/0", "2|2": "/0|0 1/2", "2|3": "/0|0 1/3", "3|2": "/0|0 1 -1/2",
		"1|1 a b": "/2|0/1", "1 a b|1": "-1 -1/0|0/1", "2|3 abc": "/1|0 1/3", "3 abc|2": "-1/0|0 1 -1/2", "0|2 ab": "/1|/2", "2 ab|0": "-1/0|-1 -1/0", "1 a|1": "-1/0|0/1",
		"0 _ _|0 _": "0 -1/1|/0", "0 _|0 _ _": "0/2|/0", "0 _ _|0 _ _": "0 1/2|/0", "0 _|2 ..": "0/1|/2", "2 ..|0 _": "0/1|-1 -1/0", "0 _ _|2 ab ..": "0 1/2|/2", "0 _ _|1 . a": "0 1/2|/1", "0 _ _|1 .": "0 -1/1|/1", "2 ab ..|0 _ _": "-1 0/2|-1 -1/0", "0 _|2 ab": "0/1|/2", "2 ab|0 _": "0/1|-1 -1/0", "0 _|0": "-1/0|/0", "0|0 _": "/1|/0",
	})
	for _, none := range []api.Sheet{{}, {Rows: [][]string{}}, {Rows: make([][]string, 0, 5)}, {Rows: [][]string{{"a"}}[:0]}} {
		for _, s := range []api.Sheet{{}, {Cols: 3}, written("2 ab cd"), numbered(12, 24), {Rows: make([][]string, 3)}} {
			check(t, none, s)
			check(t, s, none)
		}
	}
}

// 16.1: as many rows and columns as may be: one of each put in, taken away, changed, moved at each place.
func TestMost(t *testing.T) {
	most := numbered(api.MaxCols, api.MaxRows)
	less := numbered(api.MaxCols-1, api.MaxRows-1)
	same12, same24 := maps.Same(12), maps.Same(24)
	went(t, most, copied(most), same24, same12)
	for at := range api.MaxRows {
		went(t, most, withoutRow(most, at), maps.Del(24, at), same12)
		went(t, withoutRow(most, at), most, maps.Ins(23, at), same12)
		went(t, less, withRow(less, at, slices.Repeat([]string{"new"}, 11)), maps.Ins(23, at), maps.Same(11))
		went(t, less, withRow(less, at, make([]string, 11)), maps.Ins(23, at), maps.Same(11))
		went(t, most, withCell(most, at, at%12, "new"), same24, same12)
		went(t, most, withCell(most, at, at%12, ""), same24, same12)
		went(t, most, withRow(withoutRow(most, 0), at, most.Rows[0]), movedUp(at), same12)
	}
	for at := range api.MaxCols {
		wide := withCol(less, at, make([]string, 23))
		went(t, less, wide, maps.Same(23), maps.Ins(11, at))
		went(t, wide, less, maps.Same(23), maps.Del(12, at))
		cells := slices.Repeat([]string{"new"}, 23)
		went(t, less, withCol(less, at, cells), maps.Same(23), maps.Ins(11, 11))
		cells[at] = ""
		went(t, less, withCol(less, at, cells), maps.Same(23), maps.Ins(11, at))
		went(t, withCol(less, at, cells), less, maps.Same(23), maps.Del(12, at))
	}
	went(t, most, api.Sheet{}, api.Map{To: slices.Repeat([]int{-1}, 24)}, api.Map{To: slices.Repeat([]int{-1}, 12)})
	went(t, api.Sheet{}, most, api.Map{New: 24}, api.Map{New: 12})
	went(t, api.Sheet{Cols: 12, Rows: slices.Repeat([][]string{make([]string, 12)}, 24)}, most, same24, same12)
}

// movedUp tells the map of 24 rows of which the first one was moved behind so many others: alone it is gone, and new.
func movedUp(others int) api.Map {
	if others == 0 {
		return maps.Same(24)
	}
	return maps.Then(maps.Del(24, 0), maps.Ins(23, others))
}

// 16.2: a sheet beside itself keeps all.
func TestItself(t *testing.T) {
	l := slices.Concat(all(1, 4, "", "a", "b"), all(2, 3, "", "a"), all(3, 2, "", "a"), all(0, 24))
	d := dice(1)
	for n := range 200 {
		l = append(l, d.sheet([]string{"a", "b", "c", "d"}[:1+n%4]))
	}
	l = append(l, numbered(12, 24), written("3 ... ..."), written("3 aaa aaa aaa"), api.Sheet{Name: "S", Cols: 12, Rows: slices.Repeat([][]string{make([]string, 12)}, 24)})
	for _, s := range l {
		want := fmt.Sprint(api.Shift{Sheet: s.Name, Rows: maps.Same(len(s.Rows)), Cols: maps.Same(s.Cols)})
		for _, other := range []api.Sheet{s, copied(s)} {
			if got := fmt.Sprint(Sheets(s, other)); got != want {
				t.Fatalf("16.2: %.400s beside itself: %s, not %s", dump(s), got, want)
			}
			same(t, "16.2: Rows", Rows(s, other), maps.Same(len(s.Rows)))
			same(t, "16.2: Cols", Cols(s, other, maps.Same(len(s.Rows))), maps.Same(s.Cols))
		}
	}
}

// 16.1: Sheets tells a's name, whatever b's is; names change nothing else.
func TestSheets(t *testing.T) {
	for _, names := range [][2]string{{"A", "B"}, {"A", "A"}, {"", "B"}, {"A", ""}, {"no name", "\xff"}} {
		a, b := written("2 ab cd"), written("3 xyz a.b")
		a.Name, b.Name = names[0], names[1]
		check(t, a, b)
		s := Sheets(a, b)
		if s.Sheet != names[0] || s.Gone || text(s.Rows) != "1 -1/2" || text(s.Cols) != "0 2/3" {
			t.Errorf("16.1: Sheets of %q: %v", names, s)
		}
	}
}
