package book

import (
	"math"
	"slices"
	"strings"
	"testing"

	"chequer/api"
)

// table tells a sheet; each row's cells stand in one text, with a | between two.
func table(name string, cols int, rows ...string) api.Sheet {
	s := api.Sheet{Name: name, Cols: cols}
	for _, row := range rows {
		s.Rows = append(s.Rows, strings.Split(row, "|"))
	}
	return s
}

func made(l ...api.Sheet) api.Book {
	return api.Book{Sheets: l}
}

// named tells a workbook of empty sheets with those names.
func named(names ...string) api.Book {
	var b api.Book
	for _, name := range names {
		b.Sheets = append(b.Sheets, api.Sheet{Name: name})
	}
	return b
}

// sized tells a workbook of one sheet, with so many rows of so many empty cells.
func sized(cols, rows, width int) api.Book {
	s := api.Sheet{Name: "A", Cols: cols}
	for range rows {
		s.Rows = append(s.Rows, make([]string, width))
	}
	return made(s)
}

// two tells the workbook of most tests.
func two() api.Book {
	return made(table("A", 2, "1|'x", "=A1|"), table("B", 1, "5"))
}

// may expects it of b, whatever its place among others that may be.
func may(t *testing.T, b api.Book, want bool) {
	t.Helper()
	check(t, b, 1)
	if May(b) != want {
		t.Errorf("10.1: May of\n%s: %v", dump(b), !want)
	}
}

func TestMayNothing(t *testing.T) {
	may(t, api.Book{}, true)
	may(t, api.Book{Sheets: []api.Sheet{}}, true)
	may(t, two(), true)
	may(t, made(api.Sheet{}), false)
}

func TestMaySheets(t *testing.T) {
	names := []string{"A", "B", "C", "D", "E", "F", "G", "H"}
	for n := range names {
		may(t, named(names[:n]...), n <= api.MaxSheets)
	}
	may(t, named(names[:api.MaxSheets]...), true)
	may(t, named(names[:api.MaxSheets+1]...), false)
}

// 10.1: names rise byte by byte: capitals ahead of small letters, digits ahead of both.
func TestMayNames(t *testing.T) {
	for _, l := range [][]string{{"A"}, {"z"}, {"A1"}, {"TRUE"}, {"abcdefghijkl"}, {"A", "B"}, {"A", "AA"}, {"A", "a"}, {"Z", "a"}, {"A1", "AA"}, {"A1", "A10", "A2"}, {"B", "a", "b"}, {"A", "B", "C", "D", "E"}, {"abcdefghijk", "abcdefghijkl"}} {
		may(t, named(l...), true)
	}
	for _, l := range [][]string{{""}, {"1"}, {"1A"}, {"a b"}, {"A!"}, {"$A"}, {"_"}, {"é"}, {"\x00"}, {"\xff"}, {"abcdefghijklm"}, {strings.Repeat("a", 1<<16)}} {
		may(t, named(l...), false)
		may(t, named(append([]string{"A"}, l...)...), false)
		may(t, named(append(l, "z")...), false)
		may(t, named("A", l[0], "z"), false)
	}
	for _, l := range [][]string{{"A", "A"}, {"", ""}, {"", "A"}, {"A", ""}, {"B", "A"}, {"AA", "A"}, {"a", "A"}, {"a", "Z"}, {"AA", "A1"}, {"A2", "A10"}, {"A", "B", "B"}, {"A", "B", "A"}, {"B", "A", "C"}, {"A", "C", "B"}, {"A", "B", "C", "D", "D"}, {"A", "B", "C", "E", "D"}} {
		may(t, named(l...), false)
	}
}

func TestMayCols(t *testing.T) {
	for cols := -3; cols < api.MaxCols+4; cols++ {
		want := 0 <= cols && cols <= api.MaxCols
		may(t, sized(cols, 0, 0), want)
		may(t, sized(cols, 1, max(cols, 0)), want)
		may(t, sized(cols, 2, max(cols, 0)), want)
	}
	for _, cols := range []int{math.MinInt, math.MaxInt, 1 << 32, -1 << 32, 1<<32 + 1} {
		may(t, sized(cols, 0, 0), false)
		may(t, sized(cols, 1, 1), false)
	}
	b := two()
	b.Sheets[1].Cols = -1
	b.Sheets[1].Rows = nil
	may(t, b, false)
}

func TestMayRows(t *testing.T) {
	for rows := range api.MaxRows + 3 {
		for _, cols := range []int{0, 1, api.MaxCols} {
			b := sized(cols, rows, cols)
			if May(b) != (rows <= api.MaxRows) {
				t.Errorf("10.1: May of %d rows of %d columns: %v", rows, cols, May(b))
			}
		}
	}
	may(t, sized(1, api.MaxRows, 1), true)
	may(t, sized(1, api.MaxRows+1, 1), false)
	may(t, made(table("A", 1, "1"), sized(0, api.MaxRows+1, 0).Sheets[0]), false)
}

// 10.1: each row is as wide as the sheet, the first one, the last one, and one in between.
func TestMayWidths(t *testing.T) {
	for cols := range api.MaxCols + 1 {
		for width := range api.MaxCols + 3 {
			may(t, sized(cols, 1, width), cols == width)
			for at := range 3 {
				b := sized(cols, 3, cols)
				b.Sheets[0].Rows[at] = make([]string, width)
				if May(b) != (cols == width) {
					t.Errorf("10.1: May of row %d of %d cells, in %d columns: %v", at, width, cols, May(b))
				}
			}
		}
	}
	b := two()
	b.Sheets[1].Rows[0] = nil
	may(t, b, false)
	b = sized(0, 2, 0)
	b.Sheets[0].Rows[0] = nil
	may(t, b, true)
}

// 10.1: each cell may be: at each place of a workbook each text.
func TestMayCells(t *testing.T) {
	for _, s := range spots(two()) {
		for _, c := range append(slices.Clone(goodCells), badCells...) {
			b := two()
			if _, is := cells(b)[s]; !is {
				continue
			}
			b.Sheets[Find(b, s.Sheet)].Rows[s.Row][s.Col] = c
			may(t, b, slices.Contains(goodCells, c))
		}
	}
}

// 10.1: the greatest workbook that may be, and each of its cells wrong.
func TestMayGreatest(t *testing.T) {
	b := greatest()
	if !May(b) {
		t.Fatal("10.1: May of the greatest workbook")
	}
	for _, s := range b.Sheets {
		for _, row := range s.Rows {
			for j, c := range row {
				row[j] = "no"
				if May(b) {
					t.Fatal("10.1: May of one wrong cell")
				}
				row[j] = c
			}
		}
	}
}

// greatest tells a workbook that has all that may be, each cell other than the ones ahead.
func greatest() api.Book {
	var b api.Book
	n := 0
	for _, name := range []string{"A", "B", "C", "D", "abcdefghijkl"} {
		s := api.Sheet{Name: name, Cols: api.MaxCols}
		for range api.MaxRows {
			var row []string
			for range api.MaxCols {
				row = append(row, "'"+strings.Repeat("n", n))
				n = (n + 1) % api.MaxCell
			}
			s.Rows = append(s.Rows, row)
		}
		b.Sheets = append(b.Sheets, s)
	}
	return b
}

// same expects it of a and b, either way round.
func same(t *testing.T, a, b api.Book, want bool) {
	t.Helper()
	if Same(a, b) != want || Same(b, a) != want || !Same(a, a) || !Same(b, b) {
		t.Errorf("10.1: Same of\n%sand\n%s: %v", dump(a), dump(b), !want)
	}
}

func TestSame(t *testing.T) {
	same(t, two(), two(), true)
	same(t, greatest(), greatest(), true)
	for i, other := range []api.Book{
		{},
		named("A", "B"),
		made(two().Sheets[:1]...),
		made(two().Sheets[1:]...),
		made(two().Sheets[1], two().Sheets[0]),
		made(table("A", 2, "1|'x", "=A1|"), table("C", 1, "5")),
		made(table("a", 2, "1|'x", "=A1|"), table("B", 1, "5")),
		made(table("A", 2, "1|'x", "=A1|"), table("B", 1, "6")),
		made(table("A", 2, "1|'x", "=A1|"), table("B", 2, "5")),
		made(table("A", 2, "1|'x", "=A1|"), table("B", 1, "5", "")),
		made(table("A", 2, "1|'x", "=A1|"), table("B", 1)),
		made(table("A", 2, "1|'x", "=A1|"), table("B", 1, "5|")),
		made(table("A", 2, "1|'x", "=A1"), table("B", 1, "5")),
		made(table("A", 2, "=A1|", "1|'x"), table("B", 1, "5")),
		made(table("A", 2, "'x|1", "=A1|"), table("B", 1, "5")),
		made(table("A", 2, "1|'X", "=A1|"), table("B", 1, "5")),
		made(table("A", 2, "1|'x", "=A1|"), table("B", 1, "5"), api.Sheet{}),
	} {
		if dump(other) == dump(two()) {
			t.Error("no other workbook", i)
		}
		same(t, two(), other, false)
		same(t, other, Copy(other), true)
	}
}

// 10.1: sheets that are alike but for their columns or rows, and the same cells in rows of other lengths.
func TestSameForms(t *testing.T) {
	for n := range 5 {
		for m := range 5 {
			same(t, sized(n, 0, 0), sized(m, 0, 0), n == m)
			same(t, sized(0, n, 0), sized(0, m, 0), n == m)
			same(t, sized(1, n, 1), sized(1, m, 1), n == m)
			same(t, sized(1, 2, n), sized(1, 2, m), n == m)
			same(t, sized(-n, 0, 0), sized(-m, 0, 0), n == m)
		}
	}
	same(t, made(table("A", 2, "1|2", "3")), made(table("A", 2, "1", "2|3")), false)
	same(t, made(table("A", 1, "1"), table("B", 1)), made(table("A", 1), table("B", 1, "1")), false)
	same(t, sized(math.MaxInt, 1, 1), sized(math.MinInt, 1, 1), false)
	same(t, sized(1, 0, 0), sized(1<<32+1, 0, 0), false)
}

// R3: nil lists and empty ones are one.
func TestNil(t *testing.T) {
	same(t, api.Book{}, api.Book{Sheets: []api.Sheet{}}, true)
	same(t, made(api.Sheet{Name: "A"}), made(api.Sheet{Name: "A", Rows: [][]string{}}), true)
	same(t, made(api.Sheet{Name: "A", Rows: [][]string{nil, {}}}), made(api.Sheet{Name: "A", Rows: [][]string{{}, nil}}), true)
	same(t, made(api.Sheet{Name: "A", Rows: [][]string{nil}}), made(api.Sheet{Name: "A"}), false)
	may(t, made(api.Sheet{Name: "A", Rows: [][]string{nil, {}}}), true)
	may(t, made(api.Sheet{Name: "A", Cols: 1, Rows: [][]string{nil}}), false)
	if b, e := Set(made(api.Sheet{Name: "A", Rows: [][]string{nil}}, table("B", 1, "")), api.Spot{Sheet: "B"}, "5"); e != api.OK || dump(b) != "\"A\" 0 [[]]\n\"B\" 1 [[\"5\"]]\n" {
		t.Error("10.2: Set beside a nil row", e, dump(b))
	}
}

func TestFind(t *testing.T) {
	b := named("A", "AB", "B", "a", "b0")
	for i, name := range []string{"A", "AB", "B", "a", "b0"} {
		if got := Find(b, name); got != i {
			t.Errorf("10.1: Find of %q: %d", name, got)
		}
	}
	for _, name := range []string{"", "b", "AA", "ABC", "C", "A ", " A", "A!", "\x00", "A\x00", "b00", strings.Repeat("A", 1<<16)} {
		if got := Find(b, name); got != -1 {
			t.Errorf("10.1: Find of %q: %d", name, got)
		}
		if got := Find(api.Book{}, name); got != -1 {
			t.Errorf("10.1: Find of %q in nothing: %d", name, got)
		}
	}
	if Find(named("", "1", "é"), "é") != 2 || Find(named("B", "", "A"), "") != 1 || Find(named("B", "A"), "A") != 1 {
		t.Error("10.1: Find in workbooks that may not be")
	}
}

// got expects what Get tells.
func got(t *testing.T, b api.Book, s api.Spot, want string) {
	t.Helper()
	if c := Get(b, s); c != want {
		t.Errorf("10.2: Get of %v of\n%s: %q, not %q", s, dump(b), c, want)
	}
}

func TestGet(t *testing.T) {
	b := two()
	for _, c := range []struct {
		sheet    string
		row, col int
		want     string
	}{{"A", 0, 0, "1"}, {"A", 0, 1, "'x"}, {"A", 1, 0, "=A1"}, {"A", 1, 1, ""}, {"B", 0, 0, "5"},
		{"A", 2, 0, ""}, {"A", 0, 2, ""}, {"A", -1, 0, ""}, {"A", 0, -1, ""}, {"A", -2, -2, ""}, {"A", math.MinInt, 0, ""}, {"A", 0, math.MinInt, ""}, {"A", math.MaxInt, 0, ""}, {"A", 0, math.MaxInt, ""}, {"A", 1 << 32, 1 << 32, ""},
		{"B", 0, 1, ""}, {"B", 1, 0, ""}, {"B", -1, -1, ""}, {"C", 0, 0, ""}, {"", 0, 0, ""}, {"a", 0, 0, ""}} {
		got(t, b, api.Spot{Sheet: c.sheet, Row: c.row, Col: c.col}, c.want)
		got(t, api.Book{}, api.Spot{Sheet: c.sheet, Row: c.row, Col: c.col}, "")
	}
}

// 10.2: a row is taken as it is, whatever Cols says, and a workbook that may not be has cells, too.
func TestGetWrong(t *testing.T) {
	for _, cols := range []int{math.MinInt, -1, 0, 1, 2, 3, 13, math.MaxInt} {
		b := made(table("A", cols, "1|no|3", "4", "5|6"))
		for i, row := range []string{"1|no|3||", "4||||", "5|6|||", "||||"} {
			for j, want := range strings.Split(row, "|") {
				got(t, b, api.Spot{Sheet: "A", Row: i, Col: j}, want)
			}
		}
		check(t, b, 1)
	}
	b := made(table("B", 1, "=("), table("", 0, "7"), table("A", 1, "8"), table("A", 2, "9|10", "11"), table("1 x", 1, "12"))
	for _, c := range []struct {
		sheet    string
		row, col int
		want     string
	}{{"B", 0, 0, "=("}, {"", 0, 0, "7"}, {"A", 0, 0, "8"}, {"A", 0, 1, ""}, {"A", 1, 0, ""}, {"1 x", 0, 0, "12"}} {
		got(t, b, api.Spot{Sheet: c.sheet, Row: c.row, Col: c.col}, c.want)
	}
	check(t, b, 1)
	b = made(api.Sheet{Name: "A", Cols: 1, Rows: [][]string{nil, {"1"}, {}}})
	got(t, b, api.Spot{Sheet: "A", Row: 0}, "")
	got(t, b, api.Spot{Sheet: "A", Row: 1}, "1")
	got(t, b, api.Spot{Sheet: "A", Row: 2}, "")
}

// refused expects that Set tells an error and nothing beside it.
func refused(t *testing.T, b api.Book, s api.Spot, text string, want api.Errno) {
	t.Helper()
	was := dump(b)
	told, e := Set(b, s, text)
	if e != want || len(told.Sheets) != 0 {
		t.Errorf("10.2: Set of %v to %.40q of\n%.400s: %d, %v", s, text, was, e, told)
	}
	if dump(b) != was {
		t.Errorf("R3: Set of %v changed\n%.400s", s, was)
	}
}

func TestSet(t *testing.T) {
	for _, text := range goodCells {
		for _, s := range spots(two()) {
			checkSet(t, two(), s, text, true)
		}
	}
	b, e := Set(two(), api.Spot{Sheet: "A", Row: 1, Col: 1}, "=B!A1")
	if want := "\"A\" 2 [[\"1\" \"'x\"] [\"=A1\" \"=B!A1\"]]\n\"B\" 1 [[\"5\"]]\n"; e != api.OK || dump(b) != want {
		t.Errorf("10.2: Set: %d\n%s", e, dump(b))
	}
	b, e = Set(two(), api.Spot{Sheet: "B"}, "")
	if want := "\"A\" 2 [[\"1\" \"'x\"] [\"=A1\" \"\"]]\n\"B\" 1 [[\"\"]]\n"; e != api.OK || dump(b) != want {
		t.Errorf("10.2: Set to nothing: %d\n%s", e, dump(b))
	}
	b, e = Set(two(), api.Spot{Sheet: "A"}, "1")
	if e != api.OK || dump(b) != dump(two()) || !Same(b, two()) {
		t.Errorf("10.2: Set to what it is: %d\n%s", e, dump(b))
	}
}

// 10.2: ErrArg of a text that may not be, ahead of ErrNone of a place that there is not.
func TestSetWrongTexts(t *testing.T) {
	for _, text := range append(slices.Clone(badCells), strings.Repeat("5", 1<<20), "'"+strings.Repeat("x", 1<<20), "="+strings.Repeat("(", 1<<20)) {
		for _, s := range []api.Spot{{Sheet: "A"}, {Sheet: "A", Row: 1, Col: 1}, {Sheet: "B"}, {}, {Sheet: "C"}, {Sheet: "A", Row: -1}, {Sheet: "A", Col: 2}} {
			refused(t, two(), s, text, api.ErrArg)
			refused(t, api.Book{}, s, text, api.ErrArg)
			refused(t, named("A", "A"), s, text, api.ErrArg)
		}
	}
}

// 10.2: ErrArg of a workbook that may not be, ahead of ErrNone, at places that there are and that there are not.
func TestSetWrongBooks(t *testing.T) {
	for _, b := range []api.Book{
		made(api.Sheet{}),
		made(table("1", 1, "5")),
		made(table("A", 1, "5"), table("A", 1, "5")),
		made(table("B", 1, "5"), table("A", 1, "5")),
		made(table("A", 1, "x")),
		made(table("A", 1, "5"), table("B", 1, "=1 ")),
		made(table("A", 1, "5"), table("B", 2, "5")),
		made(table("A", 1, "5"), table("B", 0, "5")),
		made(table("A", 1, "5"), api.Sheet{Name: "B", Cols: -1}),
		made(table("A", 1, "5"), api.Sheet{Name: "B", Cols: api.MaxCols + 1}),
		sized(1, api.MaxRows+1, 1),
		named("A", "B", "C", "D", "E", "F"),
	} {
		for _, s := range []api.Spot{{Sheet: "A"}, {Sheet: "B"}, {Sheet: "1"}, {}, {Sheet: "C"}, {Sheet: "A", Row: -1}, {Sheet: "A", Col: 1}, {Sheet: "A", Row: 1}} {
			for _, text := range []string{"", "7", "'x", "=A1", "x"} {
				refused(t, b, s, text, api.ErrArg)
			}
		}
	}
	b := made(table("A", 1, "x"))
	refused(t, b, api.Spot{Sheet: "A"}, "5", api.ErrArg)
}

// 10.2: ErrNone of places that there are not.
func TestSetNowhere(t *testing.T) {
	for _, s := range []api.Spot{{}, {Sheet: "C"}, {Sheet: "a"}, {Sheet: "AB"}, {Sheet: "A!"}, {Sheet: "\x00"},
		{Sheet: "A", Row: 2}, {Sheet: "A", Col: 2}, {Sheet: "A", Row: -1}, {Sheet: "A", Col: -1}, {Sheet: "A", Row: 2, Col: 2}, {Sheet: "A", Row: -2, Col: -2}, {Sheet: "B", Row: 1}, {Sheet: "B", Col: 1},
		{Sheet: "A", Row: math.MinInt}, {Sheet: "A", Row: math.MaxInt}, {Sheet: "A", Col: math.MinInt}, {Sheet: "A", Col: math.MaxInt}, {Sheet: "A", Row: 1 << 32}, {Sheet: "A", Col: 1 << 32}} {
		for _, text := range goodCells {
			refused(t, two(), s, text, api.ErrNone)
			refused(t, api.Book{}, s, text, api.ErrNone)
		}
	}
	for _, b := range []api.Book{named("A"), sized(1, 0, 0), sized(0, 1, 0), sized(0, api.MaxRows, 0), sized(api.MaxCols, 0, 0)} {
		refused(t, b, api.Spot{Sheet: "A"}, "5", api.ErrNone)
	}
	refused(t, greatest(), api.Spot{Sheet: "A", Row: api.MaxRows}, "5", api.ErrNone)
	refused(t, greatest(), api.Spot{Sheet: "A", Col: api.MaxCols}, "5", api.ErrNone)
	refused(t, greatest(), api.Spot{Sheet: "E"}, "5", api.ErrNone)
}
