package align

import (
	"fmt"
	"math"
	"slices"
	"strings"
	"testing"

	"chequer/api"
	"chequer/maps"
)

// 16.1: all small sheets of few texts, each beside each other one.
func TestAllSmall(t *testing.T) {
	for _, l := range [][]api.Sheet{
		all(1, 4, "", "a", "b"),
		all(2, 2, "", "a", "aa"),
		slices.Concat(all(0, 3), all(1, 3, "", "a"), all(2, 2, "", "a"), all(3, 2, "", "a")),
		slices.Concat(all(1, 2, "", "a", "b", "ab"), all(2, 1, "", "a", "b", "ab"), all(3, 1, "", "a", "b")),
	} {
		for _, a := range l {
			for _, b := range l {
				check(t, a, b)
			}
		}
	}
}

// 16.1: of small sheets Cols by all maps that may be, of fewer old and new places than there are rows, too, and of more.
func TestAllMaps(t *testing.T) {
	var charts []api.Map
	for old := range 4 {
		for now := range 4 {
			charts = append(charts, allMaps(old, now)...)
		}
	}
	for _, l := range [][]api.Sheet{
		slices.Concat(all(1, 2, "", "a"), all(2, 2, "", "a")),
		{written("3 abc d.e .ab"), written("4 .abc d.e. a.b."), written("2 de ab"), written("3 d.e abc"), written("3 abc abc abc"), written("2 .. aa ..")},
	} {
		for _, a := range l {
			for _, b := range l {
				for _, m := range charts {
					checkCols(t, a, b, m)
				}
			}
		}
	}
}

// 16.1: sheets of any size, of few texts and of many, and any maps.
func TestAny(t *testing.T) {
	d := dice(2)
	for n := range 600 {
		var texts []string
		for i := range 1 + n%40 {
			texts = append(texts, fmt.Sprint("text ", i))
		}
		a, b := d.sheet(texts), d.sheet(texts)
		check(t, a, b)
		checkCols(t, a, b, d.chart(len(a.Rows), len(b.Rows)))
		checkCols(t, a, b, d.chart(d.below(27), d.below(27)))
	}
}

// changed tells a sheet with something put in, taken away, changed or moved.
func (d *dice) changed(s api.Sheet, n int) api.Sheet {
	row, col := d.below(len(s.Rows)+1), d.below(s.Cols+1)
	texts := []string{fmt.Sprint("new ", n)}
	hasRow, hasCol := row < len(s.Rows), col < s.Cols
	switch kind := d.below(7); {
	case kind == 0 && len(s.Rows) < api.MaxRows:
		return withRow(s, row, d.row(s.Cols, texts))
	case kind == 1 && s.Cols < api.MaxCols:
		return withCol(s, col, make([]string, len(s.Rows)))
	case kind == 2 && s.Cols < api.MaxCols:
		return withCol(s, col, d.row(len(s.Rows), texts))
	case kind == 3 && hasRow:
		return withoutRow(s, row)
	case kind == 4 && hasCol:
		return withoutCol(s, col)
	case kind == 5 && hasRow:
		return withRow(withoutRow(s, row), d.below(len(s.Rows)), slices.Clone(s.Rows[row]))
	case hasRow && hasCol:
		return withCell(s, row, col, d.row(1, texts)[0])
	}
	return s
}

// 16.1: sheets of which one came from the other by some changes.
func TestChanged(t *testing.T) {
	d := dice(3)
	for n := range 1000 {
		a := d.sheet([]string{"a", "b", "c", "d", "e", "f", "g", "h", "i", "j"})
		if n%2 == 0 {
			a = numbered(a.Cols, len(a.Rows))
		}
		b := a
		for k := range 1 + d.below(5) {
			b = d.changed(b, k)
		}
		check(t, a, b)
		check(t, b, a)
	}
}

// 16.1: of a sheet without a text twice: rows taken away and put in, and an empty column put in, are told as layer 11's
// maps tell them.
func TestOnTheWay(t *testing.T) {
	d := dice(4)
	for n := range 400 {
		a := numbered(1+d.below(6), 1+d.below(12))
		b, rows, cols := a, maps.Same(len(a.Rows)), maps.Same(a.Cols)
		for len(b.Rows) > 1 && d.below(3) > 0 {
			at := d.below(len(b.Rows))
			rows = maps.Then(rows, maps.Del(len(b.Rows), at))
			b = withoutRow(b, at)
		}
		if n%2 == 0 {
			b, rows = a, maps.Same(len(a.Rows))
			for len(b.Rows) < 20 && d.below(4) > 0 {
				at := d.below(len(b.Rows) + 1)
				rows = maps.Then(rows, maps.Ins(len(b.Rows), at))
				b = withRow(b, at, slices.Repeat([]string{"new"}, b.Cols))
			}
		}
		for b.Cols < 12 && d.below(2) > 0 {
			at := d.below(b.Cols + 1)
			cols = maps.Then(cols, maps.Ins(b.Cols, at))
			b = withCol(b, at, make([]string, len(b.Rows)))
		}
		went(t, a, b, rows, cols)
	}
}

// 16.1: texts are held against each other byte by byte, each by itself: neither runs into the next one, in rows and in
// columns.
func TestTexts(t *testing.T) {
	texts := []string{"a", "A", "b", " ", "a ", "aa", "\x00", "\x01", "\x01a", "a\x01", "\x00\x00", "'", "'a", "0", "00", "=", "é", "e\u0301", "\xff", "\xfe", "\ufffd", "\xc3", "\n", "\r\n", ",", "a,", strings.Repeat("a", 127), strings.Repeat("a", 128), strings.Repeat("a", 300)}
	for i, s := range texts {
		for k, other := range texts {
			rows, cols := "-1 0/2", "0 1/2"
			if i == k {
				rows, cols = "0 1/2", "-1 0/2"
			}
			a := api.Sheet{Cols: 1, Rows: [][]string{{s}, {other}}}
			b := api.Sheet{Cols: 1, Rows: [][]string{{strings.Clone(other)}, {s}}}
			told(t, a, b, rows, "0/1")
			// In rows alike the cells stand the other way round: so do the columns, if the texts are one.
			a = api.Sheet{Cols: 2, Rows: [][]string{{s, ""}, {"", other}, {s, other}}}
			b = api.Sheet{Cols: 2, Rows: [][]string{{"", s}, {other, ""}, {s, other}}}
			told(t, a, b, "0 1 2/3", cols)
		}
	}
}

// 16.1: columns whose cells, put together, with something between or with nothing, are alike: the columns are not.
func TestTextsTogether(t *testing.T) {
	for _, c := range [][4]string{{"a", "aa", "aa", "a"}, {"aa", "a", "a", "aa"}, {"a,", "b", "a", ",b"}, {"a", ",b", "a,", "b"}, {"a\x00", "b", "a", "\x00b"}, {"a ", "b", "a", " b"}, {"a\n", "b", "a", "\nb"}, {"a\x01", "b", "a", "\x01b"}, {"\x01a", "b", "\x01", "ab"}, {"1", "11", "11", "1"}, {"a|", "b", "a", "|b"}, {"a\t", "b", "a", "\tb"}} {
		a := api.Sheet{Cols: 3, Rows: [][]string{{c[0], "", c[2]}, {"", c[1], c[3]}}}
		b := api.Sheet{Cols: 2, Rows: [][]string{{c[0], c[2]}, {c[1], c[3]}}}
		told(t, a, b, "0 1/2", "0 -1 1/2")
	}
}

// told expects of two sheets, written as texts, where rows and columns went.
func told(t *testing.T, a, b api.Sheet, rows, cols string) {
	t.Helper()
	check(t, a, b)
	if s := Sheets(a, b); text(s.Rows) != rows || text(s.Cols) != cols {
		t.Fatalf("16.1: %s: %s and %s, not %s and %s", dump(a, b), text(s.Rows), text(s.Cols), rows, cols)
	}
}

// 16.1: Cols asks the map that it is handed, not the one that Rows tells.
func TestColsByMap(t *testing.T) {
	for _, c := range []struct {
		a, b string
		rows api.Map
		want string
	}{
		// As Rows tells it, and maps that lead fewer rows, or none.
		{"3 a.b c.d", "2 ab cd", api.Map{To: []int{0, 1}, New: 2}, "0 -1 1/2"}, {"3 a.b c.d", "2 ab cd", api.Map{To: []int{0, -1}, New: 2}, "0 -1 1/2"}, {"3 a.b c.d", "2 ab cd", api.Map{To: []int{-1, 1}, New: 2}, "0 -1 1/2"}, {"3 a.b c.d", "2 ab cd", api.Map{To: []int{-1, -1}, New: 2}, "0 1 -1/2"}, {"3 a.b c.d", "4 .ab. .cd.", api.Map{To: []int{-1, -1}, New: 2}, "0 1 2/4"}, {"3 a.b", "4 .a.b", api.Map{To: []int{-1}}, "0 1 2/4"},
		// To rows that are not alike, which are not asked.
		{"3 a.b c.d", "2 cd ab", api.Map{To: []int{0, 1}, New: 2}, "0 1 -1/2"}, {"3 a.b c.d", "2 cd ab", api.Map{To: []int{1, -1}, New: 2}, "0 -1 1/2"}, {"3 a.b c.d", "2 cd ab", api.Map{To: []int{-1, 0}, New: 2}, "0 -1 1/2"}, {"3 a.b c.d", "2 ab xy", api.Map{To: []int{0, 1}, New: 2}, "0 -1 1/2"}, {"2 ab cd", "3 a.b xyz", api.Map{To: []int{0, 1}, New: 2}, "0 2/3"}, {"2 ab cd", "3 xyz a.b", api.Map{To: []int{0, 1}, New: 2}, "0 1/3"},
		// To one of several rows alike: only that one is asked.
		{"2 ab", "3 .ab a.b ab.", api.Map{To: []int{0}, New: 3}, "1 2/3"}, {"2 ab", "3 .ab a.b ab.", api.Map{To: []int{1}, New: 3}, "0 2/3"}, {"2 ab", "3 .ab a.b ab.", api.Map{To: []int{2}, New: 3}, "0 1/3"}, {"2 ab ab", "3 .ab a.b ab.", api.Map{To: []int{-1, 2}, New: 3}, "0 1/3"}, {"2 ab ab", "3 .ab a.b ab.", api.Map{To: []int{0, 2}, New: 3}, "0 1/3"}, {"2 ab ab", "3 .ab a.b .ab", api.Map{To: []int{0, 2}, New: 3}, "1 2/3"},
		// Maps of more old places than there are rows, and to more new ones.
		{"2 ab", "3 a.b", api.Map{To: []int{0, 1, 2}, New: 3}, "0 2/3"}, {"2 ab", "3 a.b", api.Map{To: []int{1, 2}, New: 3}, "0 1/3"}, {"2 ab", "3 a.b", api.Map{To: []int{1 << 19}, New: 1 << 20}, "0 1/3"}, {"2 ab cd", "3 .ab c.d", api.Map{To: []int{1, 2}, New: 3}, "0 1/3"},
		// Of fewer old places: rows behind those go as their Images do.
		{"2 ab cd", "3 a.b c.d", api.Map{}, "0 2/3"}, {"2 ab cd", "3 a.b c.d", api.Map{New: 2}, "0 1/3"}, {"2 ab cd", "3 xyz .ab c.d", api.Map{New: 1}, "0 2/3"}, {"2 ab cd", "3 xyz .ab .cd", api.Map{New: 1}, "1 2/3"}, {"2 xy cd", "3 a.b c.d", api.Map{To: []int{-1}, New: 1}, "0 2/3"}, {"2 xy cd", "3 c.d", api.Map{To: []int{-1}}, "0 2/3"},
		// No rows.
		{"2", "3 a.b", api.Map{New: 1}, "0 1/3"}, {"2 ab", "3", api.Map{To: []int{-1}}, "0 1/3"}, {"2 ab", "3", api.Map{To: []int{0}, New: 1}, "0 1/3"}, {"2", "1", api.Map{}, "0 -1/1"}, {"0 _", "2 ..", api.Map{To: []int{0}, New: 1}, "/2"}, {"2 ..", "0 _", api.Map{To: []int{0}, New: 1}, "-1 -1/0"},
	} {
		a, b := written(c.a), written(c.b)
		checkCols(t, a, b, c.rows)
		if got := text(Cols(a, b, c.rows)); got != c.want {
			t.Errorf("16.1: Cols of %s beside %s by %s: %s, not %s", c.a, c.b, text(c.rows), got, c.want)
		}
	}
}

// R1: sheets and maps of which the document says nothing: all calls end, and none panics.
func TestWrong(t *testing.T) {
	numbers := []int{math.MinInt, math.MinInt + 1, -1 << 40, -3, -1, 0, 1, 2, 12, 13, 25, 200, 201, 1 << 20, 1 << 40, math.MaxInt - 1, math.MaxInt}
	sheets := []api.Sheet{{Cols: 1, Rows: make([][]string, 201)}, {Cols: 2, Rows: [][]string{nil, {"a", "b"}, {"a"}, {"", "a", "b", "c"}, {}}}, {Cols: 12, Rows: [][]string{{"a"}, nil}}, numbered(13, 25), numbered(3, 300), numbered(250, 2)}
	charts := []api.Map{{}, {To: []int{0, 0, 0}, New: 1}, {To: []int{2, 1, 0}, New: 3}}
	for _, n := range numbers {
		sheets = append(sheets, api.Sheet{Cols: n}, api.Sheet{Cols: n, Rows: [][]string{{"a", "b"}, {"c"}}})
		charts = append(charts, api.Map{To: []int{n, n}, New: 2}, api.Map{To: []int{1, n}, New: n}, api.Map{To: []int{n, 0, 1}, New: 3}, api.Map{New: n})
	}
	sheets = append(sheets, written("2 ab cd"), written("3 a.b c.d"), api.Sheet{})
	for _, a := range sheets {
		for _, b := range sheets {
			was := fmt.Sprint(a, b)
			Rows(a, b)
			Sheets(a, b)
			for _, m := range charts {
				before := fmt.Sprint(m)
				Cols(a, b, m)
				if fmt.Sprint(m) != before {
					t.Fatalf("R3: a map that was handed in was %s", before)
				}
			}
			if fmt.Sprint(a, b) != was {
				t.Fatalf("R3: what was handed in was %.400s", was)
			}
		}
	}
}

// R1: long texts, as many as may be, alike but for a byte: they end soon. A map that leads all rows to one makes its key
// once.
func TestGreat(t *testing.T) {
	long := strings.Repeat("x", 1<<16)
	a := api.Sheet{Cols: 12, Rows: slices.Repeat([][]string{slices.Repeat([]string{long + "a"}, 12)}, 24)}
	b := api.Sheet{Cols: 12, Rows: slices.Repeat([][]string{slices.Repeat([]string{long + "b"}, 12)}, 24)}
	for _, c := range []struct {
		a, b api.Sheet
	}{{a, copied(a)}, {a, b}} {
		s := Sheets(c.a, c.b)
		same(t, "16.1: rows of long texts", s.Rows, maps.Same(24))
		same(t, "16.1: columns of long texts", s.Cols, maps.Same(12))
	}
	many := api.Sheet{Cols: 1, Rows: slices.Repeat([][]string{{""}}, 1<<16)}
	one := api.Sheet{Cols: 1, Rows: [][]string{slices.Repeat([]string{""}, 1<<20)}}
	same(t, "16.1: columns of many rows", Cols(many, one, api.Map{To: make([]int, 1<<16), New: 1}), maps.Same(1))
}

// scribble writes into all of a list's memory, spare room too, and appends to it.
func scribble(l []int) {
	_ = append(l, 777)
	for i := range l[:cap(l)] {
		l[:cap(l)][i] = 999
	}
}

// R3: what is told is new memory, spare room too: neither that of another answer, nor of the answer's other list, nor what
// was handed in.
func TestApart(t *testing.T) {
	for _, c := range [][2]string{{"1 a", "1 a"}, {"2 ab cd", "2 ab cd"}, {"3 a.b c.d", "4 .a.b xyzw c.d."}, {"2 ab ab", "2 ba ba"}, {"2 ab cd ef", "1 a"}, {"0", "0"}, {"0", "3 abc"}, {"3 abc", "0"}, {"4 abcd efgh ijkl mnop", "4 efgh xyzw ijkl abcd"}} {
		a, b := written(c[0]), written(c[1])
		want := Sheets(a, b)
		rows, cols := text(want.Rows), text(want.Cols)
		for range 2 {
			s, second := Sheets(a, b), Sheets(a, b)
			handed, by := Rows(a, b), Rows(a, b)
			alone := Cols(a, b, by)
			scribble(s.Rows.To)
			kept(t, "the other list", s.Cols, cols)
			scribble(s.Cols.To)
			kept(t, "another answer's rows", second.Rows, rows)
			kept(t, "another answer's columns", second.Cols, cols)
			kept(t, "Rows", handed, rows)
			kept(t, "Cols", alone, cols)
			scribble(alone.To)
			kept(t, "the map that was handed in", by, rows)
			alone = Cols(a, b, by)
			scribble(by.To)
			kept(t, "Cols, what was handed in written into", alone, cols)
			scribble(handed.To)
		}
		check(t, a, b)
	}
}

// kept expects a map to be what it was.
func kept(t *testing.T, what string, m api.Map, was string) {
	t.Helper()
	if text(m) != was {
		t.Fatalf("R3: %s: %s, not %s", what, text(m), was)
	}
}

// roomy tells a sheet like s, all its lists with spare room behind them, in which something stands.
func roomy(s api.Sheet) api.Sheet {
	s = copied(s)
	for i, row := range s.Rows {
		s.Rows[i] = append(slices.Clone(row), "spare", "room")[:len(row)]
	}
	s.Rows = append(slices.Clone(s.Rows), []string{"spare"}, []string{"room"})[:len(s.Rows)]
	return s
}

// room tells all that stands in a sheet's memory, spare room too.
func room(s api.Sheet) string {
	var told []string
	for _, row := range s.Rows[:cap(s.Rows)] {
		told = append(told, fmt.Sprintf("%q", row[:cap(row)]))
	}
	return fmt.Sprintf("%q %d %q", s.Name, s.Cols, told)
}

// R3: what was handed in stays as it was, its spare room too; what was told stays, whatever is written into what was
// handed in.
func TestUntouched(t *testing.T) {
	l := slices.Concat(all(0, 2), all(1, 2, "", "a"), all(2, 2, "", "a"), []api.Sheet{written("3 a.b ... cde"), numbered(12, 24)})
	for _, v := range l {
		for _, w := range l {
			a, b := roomy(v), roomy(w)
			wasA, wasB := room(a), room(b)
			rows := Rows(a, b)
			by := append(slices.Clone(rows.To), 555)
			cols := Cols(a, b, api.Map{To: by[:len(rows.To)], New: rows.New})
			s := Sheets(a, b)
			for _, row := range a.Rows {
				Key(row)
			}
			if room(a) != wasA || room(b) != wasB || by[len(rows.To)] != 555 || !slices.Equal(by[:len(rows.To)], rows.To) {
				t.Fatalf("R3: what was handed in was %.300s, %.300s and is %.300s, %.300s", wasA, wasB, room(a), room(b))
			}
			told := text(rows) + text(cols) + text(s.Rows) + text(s.Cols)
			for _, row := range slices.Concat(a.Rows, b.Rows) {
				for i := range row {
					row[i] = "written"
				}
			}
			clear(a.Rows)
			clear(b.Rows)
			clear(by)
			if text(rows)+text(cols)+text(s.Rows)+text(s.Cols) != told {
				t.Fatalf("R3: what was handed in is written into: %s, not %s", text(rows)+text(cols), told)
			}
			same(t, "16.1: Rows", Rows(v, w), rows)
			same(t, "16.1: Cols", Cols(v, w, rows), cols)
		}
	}
}

// R3: sheets that share memory with one another.
func TestShared(t *testing.T) {
	s := written("3 abc a.b abc ..c cba abc a.b c.. abc")
	was := room(s)
	for i := range s.Rows {
		for k := i; k <= len(s.Rows); k++ {
			a, b := s, s
			a.Rows, b.Rows = s.Rows[i:k], s.Rows[:k]
			check(t, a, b)
			check(t, b, a)
		}
	}
	if room(s) != was {
		t.Errorf("R3: what was handed in was %s and is %s", was, room(s))
	}
}

// R5: the same calls tell the same, whatever was asked between.
func TestTwice(t *testing.T) {
	d := dice(5)
	for range 100 {
		a, b := d.sheet([]string{"a", "b"}), d.sheet([]string{"a", "b"})
		s := fmt.Sprint(Sheets(a, b))
		key := Key([]string{"a", "", "b"})
		Sheets(b, a)
		Key([]string{"x", "y", "z"})
		Cols(numbered(12, 24), numbered(12, 24), maps.Same(24))
		if again := fmt.Sprint(Sheets(a, b)); again != s || Key([]string{"a", "", "b"}) != key {
			t.Fatalf("R5: %s, then %s", s, again)
		}
	}
}
