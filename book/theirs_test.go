package book

import (
	"fmt"
	"math"
	"regexp"
	"slices"
	"strings"
	"testing"

	"chequer/api"
)

// What the document says of workbooks, in another way: a workbook as one text, its cells by their places, a list of all
// that keeps it from being one. Which cells may be is not asked of anyone: all the tests' cells stand in two lists.

var (
	goodCells = []string{"", "0", "1", "2", "5", "-7", "'", "'x", "'5", "''", "=A1", "=1+2", `="a"`, "=#REF!", "=SUM(A1:B2,S!C3)", "'\x00\xff", "9223372036854775807", "'" + strings.Repeat("y", api.MaxCell-1)}
	badCells  = []string{"x", " ", "007", "-0", "-", "+5", "5 ", "=", "=1 ", "=(1)", "= A1", "=1+", "=a1", "\x00", "9223372036854775808", "'" + strings.Repeat("y", api.MaxCell)}
	goodName  = regexp.MustCompile(`^[A-Za-z][A-Za-z0-9]{0,11}$`)
)

// dump tells all that is in a workbook as one text: another text of any other one. A nil list and an empty one are one.
func dump(b api.Book) string {
	var s strings.Builder
	for _, l := range b.Sheets {
		fmt.Fprintf(&s, "%q %d %q\n", l.Name, l.Cols, l.Rows)
	}
	return s.String()
}

// faults tells what keeps b from being a workbook that may be.
func faults(b api.Book) []string {
	var l []string
	names := map[string]int{}
	var inOrder []string
	for i, s := range b.Sheets {
		names[s.Name]++
		inOrder = append(inOrder, s.Name)
		if i == 5 {
			l = append(l, "too many sheets")
		}
		if !goodName.MatchString(s.Name) {
			l = append(l, "no name")
		}
		if names[s.Name] > 1 {
			l = append(l, "twice one name")
		}
		if s.Cols < 0 {
			l = append(l, "columns below 0")
		}
		if s.Cols > 12 {
			l = append(l, "too many columns")
		}
		if len(s.Rows) > 24 {
			l = append(l, "too many rows")
		}
		l = append(l, rowFaults(s)...)
	}
	if !slices.IsSorted(inOrder) {
		l = append(l, "names that fall")
	}
	return l
}

func rowFaults(s api.Sheet) []string {
	var l []string
	for _, row := range s.Rows {
		if len(row) < s.Cols {
			l = append(l, "a row too short")
		}
		if len(row) > s.Cols {
			l = append(l, "a row too long")
		}
		for _, c := range row {
			if !slices.Contains(goodCells, c) {
				l = append(l, "no cell")
			}
		}
	}
	return l
}

// cells tells all that can be got of a workbook: of sheets with one name only the first one's.
func cells(b api.Book) map[api.Spot]string {
	told := map[api.Spot]string{}
	for _, s := range slices.Backward(b.Sheets) {
		for at := range told {
			if at.Sheet == s.Name {
				delete(told, at)
			}
		}
		for i, row := range s.Rows {
			for j, c := range row {
				told[api.Spot{Sheet: s.Name, Row: i, Col: j}] = c
			}
		}
	}
	return told
}

// askedNames tells the names of a workbook's sheets, and some that are like them, or not at all.
func askedNames(b api.Book) []string {
	l := []string{"", "nowhere"}
	for _, s := range b.Sheets {
		l = append(l, s.Name, s.Name+"x", s.Name[:len(s.Name)/2], strings.ToLower(s.Name))
	}
	slices.Sort(l)
	return slices.Compact(l)
}

// spots tells all places of a workbook, and those beside them: in its sheets and in such as there are not.
func spots(b api.Book) []api.Spot {
	rows, cols := 0, 0
	for _, s := range b.Sheets {
		rows, cols = max(rows, len(s.Rows)), max(cols, min(s.Cols, api.MaxCols+1))
		for _, row := range s.Rows {
			cols = max(cols, len(row))
		}
	}
	var l []api.Spot
	for _, name := range askedNames(b) {
		for _, i := range places(rows) {
			for _, j := range places(cols) {
				l = append(l, api.Spot{Sheet: name, Row: i, Col: j})
			}
		}
	}
	return l
}

// places tells those of a list of n, and some that there are not.
func places(n int) []int {
	l := []int{math.MinInt, -1 << 32, -n - 1, -n, -1, n, n + 1, 1 << 32, math.MaxInt}
	for i := range n {
		l = append(l, i)
	}
	slices.Sort(l)
	return slices.Compact(l)
}

// check holds all that the calls tell of b, and of its places, against what the document says; of each so many places
// one is set.
func check(t *testing.T, b api.Book, each int) {
	t.Helper()
	was := dump(b)
	l := faults(b)
	if May(b) != (len(l) == 0) {
		t.Fatalf("10.1: May of\n%s: %v: %q", was, May(b), l)
	}
	if c := Copy(b); dump(c) != was || !Same(b, c) || !Same(c, b) || !Same(b, b) {
		t.Fatalf("10.1: Copy of\n%sis\n%s", was, dump(c))
	}
	checkFind(t, b)
	all := cells(b)
	for i, s := range spots(b) {
		if got := Get(b, s); got != all[s] {
			t.Fatalf("10.2: Get of %v of\n%s: %q, not %q", s, was, got, all[s])
		}
		if i%each == 0 {
			checkSet(t, b, s, "'set", true)
		}
	}
	if dump(b) != was {
		t.Fatalf("R3: what was handed in is changed: from\n%sto\n%s", was, dump(b))
	}
}

func checkFind(t *testing.T, b api.Book) {
	t.Helper()
	first := map[string]int{}
	for i, s := range slices.Backward(b.Sheets) {
		first[s.Name] = i
	}
	for _, name := range askedNames(b) {
		want, is := first[name]
		if !is {
			want = -1
		}
		if got := Find(b, name); got != want {
			t.Fatalf("10.1: Find of %q of\n%s: %d, not %d", name, dump(b), got, want)
		}
	}
}

// checkSet holds what Set tells of b, s, and a text that may be or may not, against what the document says.
func checkSet(t *testing.T, b api.Book, s api.Spot, text string, good bool) {
	t.Helper()
	all := cells(b)
	_, is := all[s]
	want, e := api.Book{}, api.OK
	switch {
	case len(faults(b)) > 0 || !good:
		e = api.ErrArg
	case !is:
		e = api.ErrNone
	default:
		all[s] = text
		want = filled(b, all)
	}
	told, err := Set(b, s, text)
	if err != e || dump(told) != dump(want) {
		t.Fatalf("10.2, 10.3: Set of %v to %q of\n%sis %d,\n%s", s, text, dump(b), err, dump(told))
	}
	if e == api.OK && (!May(told) || Get(told, s) != text) {
		t.Fatalf("10.2: Set of %v to %q of\n%sis\n%s", s, text, dump(b), dump(told))
	}
}

// filled tells a workbook of b's form with those cells.
func filled(b api.Book, cells map[api.Spot]string) api.Book {
	var told api.Book
	for _, s := range b.Sheets {
		made := api.Sheet{Name: s.Name, Cols: s.Cols, Rows: make([][]string, len(s.Rows))}
		for i := range s.Rows {
			made.Rows[i] = make([]string, len(s.Rows[i]))
			for j := range made.Rows[i] {
				made.Rows[i][j] = cells[api.Spot{Sheet: s.Name, Row: i, Col: j}]
			}
		}
		told.Sheets = append(told.Sheets, made)
	}
	return told
}

// dice tells numbers that look like any, the same ones in every run.
type dice uint64

func (d *dice) below(n int) int {
	*d = *d*6364136223846793005 + 1442695040888963407
	return int(uint64(*d)>>33) % n
}

// anyOf tells one of some texts.
func (d *dice) anyOf(l ...string) string {
	return l[d.below(len(l))]
}

// names tells n of them that rise.
func (d *dice) names(n int) []string {
	l := []string{"A", "AB", "ABCDEFGHIJKL", "B", "B1", "Z9", "a", "ab", "b0", "s1", "z"}
	for len(l) > n {
		i := d.below(len(l))
		l = slices.Delete(l, i, i+1)
	}
	return l
}

// sheet tells one of at most so many rows and columns.
func (d *dice) sheet(name string, rows, cols int) api.Sheet {
	s := api.Sheet{Name: name, Cols: d.below(cols + 1), Rows: make([][]string, d.below(rows+1))}
	for i := range s.Rows {
		s.Rows[i] = make([]string, s.Cols)
		for j := range s.Rows[i] {
			s.Rows[i][j] = d.anyOf(goodCells...)
		}
	}
	return s
}

// book tells one that may be.
func (d *dice) book(sheets, rows, cols int) api.Book {
	var b api.Book
	for _, name := range d.names(d.below(sheets + 1)) {
		b.Sheets = append(b.Sheets, d.sheet(name, rows, cols))
	}
	return b
}

// spoil changes something in b, so that most often it may not be any more.
func (d *dice) spoil(b *api.Book) {
	if len(b.Sheets) == 0 {
		b.Sheets = append(b.Sheets, d.sheet(d.anyOf("", "1", "é"), 2, 2))
		return
	}
	s := &b.Sheets[d.below(len(b.Sheets))]
	switch d.below(7) {
	case 0:
		s.Name = d.anyOf("", "1", "A!", "a b", "abcdefghijklm", "é", "\x00", "A", "M", "z")
	case 1:
		s.Cols = d.below(17) - 2
	case 2:
		other := &b.Sheets[d.below(len(b.Sheets))]
		s.Name, other.Name = other.Name, s.Name
	case 3:
		for range d.below(26) {
			s.Rows = append(s.Rows, make([]string, max(s.Cols, 0)))
		}
	case 4:
		for range d.below(6) {
			b.Sheets = append(b.Sheets, d.sheet("z"+d.anyOf("", "1", "2", "3"), 1, 1))
		}
	default:
		d.spoilRow(s)
	}
}

func (d *dice) spoilRow(s *api.Sheet) {
	if len(s.Rows) == 0 {
		s.Rows = append(s.Rows, make([]string, max(s.Cols+1, 0)))
		return
	}
	i := d.below(len(s.Rows))
	row := s.Rows[i]
	switch n := d.below(4); {
	case n == 0:
		s.Rows[i] = append(row, d.anyOf(goodCells...))
	case len(row) == 0:
		s.Rows[i] = append(row, d.anyOf(badCells...))
	case n == 1:
		s.Rows[i] = row[:len(row)-1]
	default:
		row[d.below(len(row))] = d.anyOf(badCells...)
	}
}
