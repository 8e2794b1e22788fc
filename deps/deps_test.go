package deps

import (
	"math"
	"slices"
	"strconv"
	"strings"
	"testing"

	"chequer/api"
)

// table tells a sheet; its rows are written with | between the cells.
func table(name string, rows ...string) api.Sheet {
	s := api.Sheet{Name: name}
	for _, row := range rows {
		s.Rows = append(s.Rows, strings.Split(row, "|"))
		s.Cols = len(s.Rows[0])
	}
	return s
}

func made(l ...api.Sheet) api.Book {
	return api.Book{Sheets: l}
}

// at tells the cell of a text like S!B3.
func at(s string) api.Spot {
	sheet, rest, _ := strings.Cut(s, "!")
	digits := strings.IndexAny(rest, "0123456789")
	return api.Spot{Sheet: sheet, Row: number(rest[digits:]), Col: number(rest[:digits])}
}

// list tells the cells of a text like A!A1 A2 B!C3: the sheet is that of the one ahead, where none is named.
func list(s string) []api.Spot {
	var l []api.Spot
	sheet := ""
	for _, word := range strings.Fields(s) {
		if name, rest, ok := strings.Cut(word, "!"); ok {
			sheet, word = name, rest
		}
		l = append(l, at(sheet+"!"+word))
	}
	return l
}

// climbing are cells, each ahead of the next one.
func climbing() []api.Spot {
	return []api.Spot{
		{Sheet: "", Row: math.MinInt, Col: math.MaxInt}, {Sheet: "", Row: -1, Col: 5}, {}, {Sheet: "", Row: 0, Col: 1}, {Sheet: "", Row: math.MaxInt, Col: math.MinInt},
		{Sheet: "\x00"}, {Sheet: "1", Row: 3}, {Sheet: "10"}, {Sheet: "2"},
		{Sheet: "A", Row: -10, Col: 9}, {Sheet: "A", Row: -9, Col: 7}, {Sheet: "A", Row: -1, Col: 100}, {Sheet: "A", Row: 0, Col: math.MinInt}, {Sheet: "A", Row: 0, Col: -2}, {Sheet: "A", Row: 0, Col: -1},
		{Sheet: "A", Row: 0, Col: 0}, {Sheet: "A", Row: 0, Col: 1}, {Sheet: "A", Row: 0, Col: 2}, {Sheet: "A", Row: 0, Col: 9}, {Sheet: "A", Row: 0, Col: 10}, {Sheet: "A", Row: 0, Col: 11}, {Sheet: "A", Row: 0, Col: 100}, {Sheet: "A", Row: 0, Col: math.MaxInt},
		{Sheet: "A", Row: 1, Col: math.MinInt}, {Sheet: "A", Row: 1, Col: 0}, {Sheet: "A", Row: 2, Col: 1}, {Sheet: "A", Row: 9, Col: 0}, {Sheet: "A", Row: 9, Col: 3}, {Sheet: "A", Row: 10, Col: 0}, {Sheet: "A", Row: 10, Col: 3}, {Sheet: "A", Row: 100, Col: 0}, {Sheet: "A", Row: 1 << 32, Col: 0}, {Sheet: "A", Row: math.MaxInt, Col: 0},
		{Sheet: "A1"}, {Sheet: "AA"}, {Sheet: "AB", Row: -5, Col: -5}, {Sheet: "AB", Row: 2, Col: 2}, {Sheet: "B", Row: -1}, {Sheet: "B"}, {Sheet: "B", Col: 1}, {Sheet: "B", Row: 1}, {Sheet: "Z"}, {Sheet: "a"}, {Sheet: "aB"}, {Sheet: "ab"}, {Sheet: "b"}, {Sheet: "\u00e9"}, {Sheet: "\xff"}, {Sheet: "\xff\x00"},
	}
}

// 13.1: cells of many kinds, each against each: by sheet, then by row, then by column; -1, 0 and 1, nothing else.
func TestCmp(t *testing.T) {
	l := climbing()
	for i, a := range l {
		for k, b := range l {
			want := 0
			if i < k {
				want = -1
			} else if i > k {
				want = 1
			}
			if got := Cmp(a, b); got != want {
				t.Errorf("13.1: Cmp(%v, %v): %d, not %d", a, b, got, want)
			}
		}
	}
}

// 13.1: cells that differ in one of the three, in two of them, in all; what stands ahead counts, whatever is behind it.
func TestCmpParts(t *testing.T) {
	for n := range 27 * 27 {
		a := api.Spot{Sheet: []string{"A", "B", "C"}[n%3], Row: n / 3 % 3, Col: n / 9 % 3}
		b := api.Spot{Sheet: []string{"A", "B", "C"}[n/27%3], Row: n / 81 % 3, Col: n / 243}
		want := 0
		switch {
		case before(a, b):
			want = -1
		case before(b, a):
			want = 1
		}
		if got := Cmp(a, b); got != want {
			t.Errorf("13.1: Cmp(%v, %v): %d, not %d", a, b, got, want)
		}
	}
	long := strings.Repeat("A", 1<<20)
	if Cmp(api.Spot{Sheet: long}, api.Spot{Sheet: long + "A"}) != -1 || Cmp(api.Spot{Sheet: long + "B"}, api.Spot{Sheet: long + "A", Row: 1}) != 1 || Cmp(api.Spot{Sheet: long, Row: 1}, api.Spot{Sheet: long}) != 1 {
		t.Error("13.1: Cmp of long names")
	}
}

// many is a book with a formula in A!A1, and cells around it.
func many(text string) api.Book {
	a := table("A", "|2|3|4", "5||'x|", "=A1|=B1|7|8")
	a.Rows[0][0] = text
	return made(a, table("A1", "1|2", "3|4"), table("B", "=A!A1", "", "'x"), table("TRUE", "1"), table("a", "1|2"))
}

// 13.1: what a formula names: with and without a sheet, absolute and relative, within ranges and beyond the edges.
func TestNeeds(t *testing.T) {
	for text, want := range map[string]string{
		"=1": "", `="B1"`: "", `="B!A1:B2"`: "", `="""B1"`: "", "=TRUE": "", "=#REF!": "", "=F()": "", "=B2D2(1)": "", `=1+"x"&-5`: "",
		"=A1": "A!A1", "=B1": "A!B1", "=A2": "A!A2", "=B2": "A!B2", "=D3": "A!D3", "=$B2": "A!B2", "=B$2": "A!B2", "=$B$2": "A!B2",
		"=A!B2": "A!B2", "=A!$B$2": "A!B2", "=B!A1": "B!A1", "=B!A2": "B!A2", "=B!$A3": "B!A3", "=A1!B2": "A1!B2", "=TRUE!A1": "TRUE!A1", "=a!A1": "a!A1", "=a!B$1": "a!B1",
		"=A4": "", "=E1": "", "=E4": "", "=A999": "", "=ZZ1": "", "=ZZ999": "", "=B!B1": "", "=B!A4": "", "=TRUE!A2": "", "=a!A2": "",
		"=C!A1": "", "=b!A1": "", "=AA!A1": "", "=A2!A1": "", "=B1!A1": "", "=F!A1:ZZ999": "", "=C!A1+A2": "A!A2",
		"=A1:A1": "A!A1", "=B2:C3": "A!B2 C2 B3 C3", "=$B2:C$3": "A!B2 C2 B3 C3", "=$B$2:$C$3": "A!B2 C2 B3 C3", "=A2:D2": "A!A2 B2 C2 D2", "=C1:C3": "A!C1 C2 C3", "=A1:D3": "A!A1 B1 C1 D1 A2 B2 C2 D2 A3 B3 C3 D3",
		"=C2:Z99": "A!C2 D2 C3 D3", "=D3:ZZ999": "A!D3", "=A3:Z3": "A!A3 B3 C3 D3", "=D1:D999": "A!D1 D2 D3", "=E1:Z9": "", "=A4:D9": "", "=E4:ZZ999": "", "=ZZ999:ZZ999": "",
		"=A1!A1:B2": "A1!A1 B1 A2 B2", "=A1!B1:D9": "A1!B1 B2", "=B!A2:Z9": "B!A2 A3", "=B!B1:B9": "", "=TRUE!A1:ZZ999": "TRUE!A1", "=C!A1:B2": "", "=A!A1:B1": "A!A1 B1",
		"=B1+B1": "A!B1", "=B1+A!B1": "A!B1", "=B1+$B$1+A!$B1": "A!B1", "=SUM(B1:C2,B2)": "A!B1 C1 B2 C2", "=SUM(B2,B1:C2)": "A!B1 C1 B2 C2", "=SUM(A1:B2,B2:C3)": "A!A1 B1 A2 B2 C2 B3 C3", "=SUM(A1:B1,A1:B1)": "A!A1 B1",
		"=C3+A1": "A!A1 C3", "=B1+A2": "A!B1 A2", "=A2+B1": "A!B1 A2", "=D1+C2+B3": "A!D1 C2 B3", "=B3+C2+D1": "A!D1 C2 B3", "=SUM(C1:C2,A1:A2)": "A!A1 C1 A2 C2", "=SUM(A2:B3,C1:C2)": "A!C1 A2 B2 C2 A3 B3",
		"=a!A1+TRUE!A1+B!A1+A1!A1+A1": "A!A1 A1!A1 B!A1 TRUE!A1 a!A1", "=A1!B1+A3": "A!A3 A1!B1", "=B!A3+A1!B2+B!A1+A1!A1": "A1!A1 B2 B!A1 A3", "=B!A1+C!A1+B!A9": "B!A1",
		"=--B1": "A!B1", "=-(B1+C1)": "A!B1 C1", "=IF(B1=C1,SUM(A2:B2),F(G(D3)))": "A!B1 C1 A2 B2 D3", `=LEN("A3")&B1`: "A!B1", "=#REF!+B1": "A!B1", "=MOD(A2,3)<=B!A3": "A!A2 B!A3",
	} {
		b := many(text)
		if got := Needs(b, at("A!A1")); !slices.Equal(got, list(want)) {
			t.Errorf("13.1: Needs of %q: %v, not %v", text, got, list(want))
		}
		checkSmall(t, b)
	}
}

// 13.1: rows and columns of one digit and of two, of one letter and of two, rise as numbers do.
func TestNeedsRising(t *testing.T) {
	s := api.Sheet{Name: "A", Cols: api.MaxCols}
	for range api.MaxRows {
		s.Rows = append(s.Rows, make([]string, api.MaxCols))
	}
	for text, want := range map[string]string{
		"=A10+A9+A2+A1": "A!A1 A2 A9 A10", "=A24+L3+K3+J3": "A!J3 K3 L3 A24", "=L9+A10": "A!L9 A10", "=SUM(L8:L11)": "A!L8 L9 L10 L11", "=SUM(I9:Z10)": "A!I9 J9 K9 L9 I10 J10 K10 L10",
		"=SUM(K24:ZZ999,A9)": "A!A9 K24 L24", "=A24+A25+L24+M24": "A!A24 L24", "=SUM(L20:M99,K23:K25)": "A!L20 L21 L22 K23 L23 K24 L24", "=B20+$J$11+C3+A1+L24": "A!A1 C3 J11 B20 L24",
	} {
		s.Rows[23][0] = text
		if got := Needs(made(s), at("A!A24")); !slices.Equal(got, list(want)) {
			t.Errorf("13.1: Needs of %q: %v, not %v", text, got, list(want))
		}
		checkSmall(t, made(s))
	}
	s.Rows[0][11] = "=SUM(A1:L24)"
	got := Needs(made(s), at("A!L1"))
	for i := range got {
		if want := (api.Spot{Sheet: "A", Row: i / 12, Col: i % 12}); got[i] != want {
			t.Fatalf("13.1: Needs of all: %d. is %v", i, got[i])
		}
	}
	if len(got) != 288 {
		t.Error("13.1: Needs of all:", len(got))
	}
}

// 13.1: the sheet of those that name none is the cell's own.
func TestNeedsOwn(t *testing.T) {
	text := "=A2+A!A1+SUM(A1:B1,B!A1:A2)"
	b := made(table("A", text+"|"+text, "1|2"), table("B", text, "2"), table("C", text))
	for s, want := range map[string]string{
		"A!A1": "A!A1 B1 A2 B!A1 A2", "A!B1": "A!A1 B1 A2 B!A1 A2", "B!A1": "A!A1 B!A1 A2", "C!A1": "A!A1 B!A1 A2 C!A1", "A!A2": "", "A!B2": "", "B!A2": "", "C!A2": "", "D!A1": "",
	} {
		if got := Needs(b, at(s)); !slices.Equal(got, list(want)) {
			t.Errorf("13.1: Needs of %s: %v, not %v", s, got, list(want))
		}
	}
	checkSmall(t, b)
}

// 13.1: none of a cell that has no formula, that is not there, that is on no sheet.
func TestNeedsNone(t *testing.T) {
	b := made(table("A", "1|-7||'x|'=A1|'A1|=A1"), table("B", "=A!A1"))
	for _, s := range list("A!A1 B1 C1 D1 E1 F1 H1 G2 A2 B!B1 A2 B2 C!A1 a!G1 b!A1") {
		if got := Needs(b, s); len(got) != 0 {
			t.Errorf("13.1: Needs of %v: %v", s, got)
		}
	}
	for _, sheet := range []string{"", "A", "B", "C", "A!", "A!A1", "=", "\x00", "\xff", strings.Repeat("A", 1<<20)} {
		for _, row := range []int{math.MinInt, -1 << 32, -2, -1, 1, 2, 3, 998, 999, 1 << 32, math.MaxInt} {
			for _, col := range []int{math.MinInt, -1 << 32, -7, -1, 0, 6, 7, 701, 702, 1 << 32, math.MaxInt} {
				for _, s := range []api.Spot{{Sheet: sheet, Row: row, Col: col}, {Sheet: sheet, Row: row}, {Sheet: "D", Col: col}} {
					if got := append(Needs(b, s), Needs(api.Book{}, s)...); len(got) != 0 {
						t.Errorf("13.1: Needs of %v: %v", s, got)
					}
				}
			}
		}
	}
	for _, col := range []int{math.MinInt, -7, -1, 7, 8, 1 << 32, math.MaxInt} {
		if got := Needs(b, api.Spot{Sheet: "A", Col: col}); len(got) != 0 {
			t.Errorf("13.1: Needs of column %d: %v", col, got)
		}
	}
	if got := Needs(b, at("A!G1")); !slices.Equal(got, list("A!A1")) {
		t.Error("13.1: Needs of A!G1:", got)
	}
}

// 13.1: none of what begins as a formula does, and may be none.
func TestNeedsNoFormula(t *testing.T) {
	for _, text := range []string{"=", "=A2 ", "= A2", "=(A2)", "=A2+", "=a2", "=A02", "=A1000", "=AAA1", "=A2:A1", "=A!A1:A!A2", "=F(A2", "=A2)", "==A2", "A2", "+A2", " =A2", "=A2\x00", "='A2", "=+A2", "=A2;A3", "=" + strings.Repeat("A2+", 100) + "A2", "=" + strings.Repeat("(", 1<<20), "=" + strings.Repeat("-", 13) + "A2"} {
		b := made(table("A", "", "1", "2"))
		b.Sheets[0].Rows[0][0] = text
		if got := Needs(b, at("A!A1")); len(got) != 0 {
			t.Errorf("13.1: Needs of %.40q: %v", text, got)
		}
		check(t, b)
	}
}

// 13.1: the longest formula that may be.
func TestNeedsLong(t *testing.T) {
	b := made(table("A", "1|2", "3|4"))
	b.Sheets[0].Rows[0][0] = "=" + strings.Repeat("A2+", 98) + "B2-B1"
	if got := Needs(b, at("A!A1")); len(b.Sheets[0].Rows[0][0]) != api.MaxCell || !slices.Equal(got, list("A!B1 A2 B2")) {
		t.Error("13.1: Needs of a long formula:", got)
	}
	checkSmall(t, b)
}

// ordered expects of a book's sheets what Order tells.
func ordered(t *testing.T, order, cyclic string, sheets ...api.Sheet) {
	t.Helper()
	b := made(sheets...)
	got, gotCyclic := Order(b)
	if !slices.Equal(got, list(order)) || !slices.Equal(gotCyclic, list(cyclic)) {
		t.Errorf("13.2: Order of\n%s: %v and %v, not %v and %v", dump(b), got, gotCyclic, list(order), list(cyclic))
	}
	checkSmall(t, b)
}

func TestOrderExample(t *testing.T) {
	ordered(t, "", "A!A1 B1", table("A", "=B1|=A1"))
	ordered(t, "", "A!A1 B!A1", table("A", "=B!A1"), table("B", "=A!A1"))
}

// 13.2: books without formulas, and with ones that need none.
func TestOrderFree(t *testing.T) {
	ordered(t, "", "")
	ordered(t, "", "", api.Sheet{Name: "A"})
	ordered(t, "", "", api.Sheet{Name: "A", Cols: 3}, api.Sheet{Name: "B", Rows: [][]string{{}, nil}})
	ordered(t, "", "", table("A", "1|'x||'=A1", "-7|'A1||''"), table("B", ""))
	ordered(t, "A!A1", "", table("A", "=1"))
	ordered(t, "A!A1", "", table("A", "=#REF!"))
	ordered(t, "A!A1 B1 A2 B2 B!A1 a!A1", "", table("A", `=1|="B2"`, "=TRUE|=F()"), table("B", "=C!A1"), table("a", "=-5"))
	ordered(t, "A!B1 A2 B2", "", table("A", "1|=A1", "=A1|=Z99"))
	ordered(t, "A!A1", "", table("A", "=B1|5"))
	ordered(t, "A!A1", "", table("A", "=SUM(B1:Z99)|"))
}

// 13.2: chains on a sheet and across sheets, forwards, backwards and to and fro.
func TestOrderChains(t *testing.T) {
	ordered(t, "A!A1 B1 C1", "", table("A", "=1|=A1|=B1"))
	ordered(t, "A!C1 B1 A1", "", table("A", "=B1|=C1|=1"))
	ordered(t, "A!B1 A1 C1", "", table("A", "=B1|=1|=A1"))
	ordered(t, "A!A3 A2 A1", "", table("A", "=A2", "=A3", "=9"))
	ordered(t, "A!B1 C1 A1", "", table("A", "=C1|=1|=B1"))
	ordered(t, "B!A1 A!A1 A2", "", table("A", "=B!A1", "=A1"), table("B", "=1"))
	ordered(t, "B!A2 A!A2 B!A1 A!A1", "", table("A", "=B!A1", "=B!A2"), table("B", "=A!A2", "=7"))
	ordered(t, "C!A1 B!A1 A!A1", "", table("A", "=B!A1"), table("B", "=C!A1"), table("C", "=D!A1"))
	ordered(t, "A!A1 a!A1 TRUE!A1", "", table("A", "=1"), table("TRUE", "=a!A1"), table("a", "=A!A1"))
	// A chain by way of a cell without a formula is none.
	ordered(t, "A!A1 C1", "", table("A", "=B1|5|=A1"))
	ordered(t, "A!A1 C1", "", table("A", "=B1|'=C1|=1"))
}

// 13.2: trees: by themselves, within ranges, named more than once.
func TestOrderTrees(t *testing.T) {
	ordered(t, "A!B1 C1 A1", "", table("A", "=B1+C1|=1|=2"))
	ordered(t, "A!B1 C1 A1", "", table("A", "=SUM(B1:C1)|=1|=2"))
	ordered(t, "A!B1 C1 A1", "", table("A", "=SUM(B1:Z9,C1,B1)+B1|=1|=2"))
	ordered(t, "A!C1 B1 A1", "", table("A", "=B1+C1|=C1|=2"))
	ordered(t, "A!B1 C1 A1", "", table("A", "=B1+C1|=2|=B1"))
	ordered(t, "A!D1 B1 C1 A1", "", table("A", "=B1+C1|=D1|=D1|=1"))
	ordered(t, "A!A1 A2 B2 A3 B3 C3", "", table("A", "=1||", "=A1|=A1|", "=A2|=A2+B2|=B2"))
	ordered(t, "A!C3 B2 B1 C2 A1 C1", "", table("A", "=SUM(B2:C3)|=B2|=SUM(B2:C2)", "|=C3|=C3", "||=1"))
	// A cell's formula is named by more than one, of which each waits for another one.
	ordered(t, "A!D1 C1 B1 A1", "", table("A", "=D1+B1|=D1+C1|=D1|=1"))
}

// 13.2: of those that could come next always the least: what came free goes ahead of greater ones, behind lesser ones.
func TestOrderLeast(t *testing.T) {
	ordered(t, "A!A1 B1 C1 D1", "", table("A", "=1|=2|=3|=4"))
	ordered(t, "A!B1 A1 C1 D1", "", table("A", "=B1|=2|=3|=4"))
	ordered(t, "A!B1 C1 A1 D1", "", table("A", "=C1|=2|=3|=4"))
	ordered(t, "A!B1 C1 D1 A1", "", table("A", "=D1|=2|=3|=4"))
	ordered(t, "A!C1 D1 A1 B1", "", table("A", "=D1|=A1|=3|=4"))
	ordered(t, "A!C1 A1 D1 B1", "", table("A", "=C1|=D1|=3|=4"))
	ordered(t, "A!B1 D1 A1 C1", "", table("A", "=D1|=2|=A1|=4"))
	ordered(t, "A!B1 A2 A1 B2", "", table("A", "=A2|=1", "=2|=3"))
	// Rows ahead of columns, sheets ahead of rows.
	ordered(t, "A!B1 A2 B!A1", "", table("A", "1|=1", "=2|"), table("B", "=3"))
	ordered(t, "B!A1 A!A1 B!A2", "", table("A", "=B!A1"), table("B", "=1", "=2"))
	ordered(t, "B!A1 A2 A!A1", "", table("A", "=B!A2"), table("B", "=1", "=2"))
	ordered(t, "A!A2 B!A1 A!A1 B!A2", "", table("A", "=B!A1", "=1"), table("B", "=1", "=2"))
	ordered(t, "A!A1 A10!A1 A9!A1 B!A1", "", table("A", "=1"), table("A10", "=1"), table("A9", "=1"), table("B", "=1"))
	// Rows and columns of two digits behind those of one.
	s := api.Sheet{Name: "A", Cols: api.MaxCols}
	var want []api.Spot
	for i := range api.MaxRows {
		s.Rows = append(s.Rows, make([]string, api.MaxCols))
		for j := range api.MaxCols {
			s.Rows[i][j] = "=1"
			want = append(want, api.Spot{Sheet: "A", Row: i, Col: j})
		}
	}
	if got, _ := Order(made(s)); !slices.Equal(got, want) {
		t.Error("13.2: Order of free ones:", got)
	}
	s.Rows[8][11] = "=A10"
	i := slices.Index(want, at("A!L9"))
	want[i], want[i+1] = want[i+1], want[i]
	if got, _ := Order(made(s)); !slices.Equal(got, want) {
		t.Error("13.2: Order of free ones but for L9:", got)
	}
}

// 13.2: circles of one, of two, of many; what needs one cannot come, what one needs can.
func TestOrderCircles(t *testing.T) {
	ordered(t, "", "A!A1", table("A", "=A1"))
	ordered(t, "", "A!A1", table("A", "=A!$A$1"))
	ordered(t, "", "A!A1", table("A", "=SUM(A1:B2)"))
	ordered(t, "", "A!B2", table("A", "1|2", "3|=SUM(A1:Z99)"))
	ordered(t, "A!A1", "", table("A", "=B!A1"), table("B", "1"))
	ordered(t, "", "A!A1 B1 C1", table("A", "=B1|=C1|=A1"))
	ordered(t, "", "A!A1 B1 C1", table("A", "=C1|=A1|=B1"))
	ordered(t, "", "A!A1 B!A1 C!A1", table("A", "=C!A1"), table("B", "=A!A1"), table("C", "=B!A1"))
	ordered(t, "", "A!A1 B1 A2 B2", table("A", "=A2|=A1", "=B2|=B1"))
	// Two circles, one within a range of the other.
	ordered(t, "", "A!A1 B1 C1 D1", table("A", "=B1|=A1|=D1|=C1"))
	ordered(t, "", "A!A1 B1 C1 D1", table("A", "=B1|=SUM(A1:C1)|=D1|=C1"))
	// In need of a circle, by one step and by more.
	ordered(t, "", "A!A1 B1", table("A", "=A1|=A1"))
	ordered(t, "", "A!A1 B1", table("A", "=B1|=B1"))
	ordered(t, "", "A!A1 B1 C1 D1", table("A", "=B1|=C1|=D1|=C1"))
	ordered(t, "", "A!A1 B1 C1 D1", table("A", "=B1|=A1|=B1|=C1"))
	ordered(t, "A!D1", "A!A1 B1 C1", table("A", "=A1|=A1+D1|=SUM(B1:D1)|=1"))
	// Needed by a circle.
	ordered(t, "A!C1", "A!A1 B1", table("A", "=B1+C1|=A1|=1"))
	ordered(t, "A!A1", "A!B1 C1", table("A", "=1|=A1+C1|=A1+B1"))
	ordered(t, "A!A1 D1", "A!B1 C1", table("A", "=1|=A1+C1|=A1+B1|=A1"))
	ordered(t, "A!D1 C1", "A!A1 B1", table("A", "=A1+C1|=B1+C1|=D1|=1"))
	ordered(t, "B!A1", "A!A1 A2 B!A2", table("A", "=A1", "=B!A1+B!A2"), table("B", "=1", "=A!A1"))
	// No circle by way of a cell that has no formula, or is not there.
	ordered(t, "A!A1", "", table("A", "=B1|'=A1"))
	ordered(t, "A!A1", "", table("A", "=A2"))
	ordered(t, "A!A1", "", table("A", "=a!A1"))
	ordered(t, "A!A1", "", table("A", `="A1"`))
	ordered(t, "A!A1", "", table("A", "=A2:Z99"))
}

// 13.2: nothing of books that may not be, beside formulas that could come, and ones that could not.
func TestOrderWrongBooks(t *testing.T) {
	good := table("A", "=B1|=1", "=A2|")
	high := api.Sheet{Name: "B", Cols: 1}
	for range api.MaxRows + 1 {
		high.Rows = append(high.Rows, []string{"=1"})
	}
	for i, l := range [][]api.Sheet{
		{good, good}, {table("B", "=1"), good}, {good, table("1", "=1")}, {table("", "=1"), good}, {good, table("B", "=1 ")}, {good, table("B", "x")}, {good, table("B", "=1"), table("B", "=1")},
		{good, table("B", "=1|=2", "=3")}, {good, table("B", "=1", "=2|=3")}, {good, {Name: "B", Cols: -1}}, {good, {Name: "B", Cols: api.MaxCols + 1}}, {good, {Name: "B", Cols: 1, Rows: [][]string{nil}}}, {good, high},
		{good, table("B", "=1"), table("C", "=1"), table("D", "=1"), table("E", "=1"), table("F", "=1")}, {good, table("abcdefghijklm", "=1")}, {good, table("B", strings.Repeat("=1|", 12)+"=1")},
	} {
		order, cyclic := Order(made(l...))
		if len(order) != 0 || len(cyclic) != 0 {
			t.Errorf("13.2: Order of the %d. book that may not be: %v and %v", i, order, cyclic)
		}
		check(t, made(l...))
	}
	ordered(t, "A!B1 A1", "A!A2", good)
}

// 13.1: a book that may not be has cells, too: as its rows are, of sheets with one name the first one's.
func TestNeedsWrongBooks(t *testing.T) {
	for i, c := range []struct {
		b       api.Book
		s, want string
	}{
		{made(table("A", "=A1:C3", "1", "2|3|4|5")), "A!A1", "A!A1 A2 A3 B3 C3"},
		{made(api.Sheet{Name: "A", Cols: -1, Rows: [][]string{{"=A1:C3", "1"}}}), "A!A1", "A!A1 B1"},
		{made(api.Sheet{Name: "A", Cols: 9, Rows: [][]string{{"=A1:C3"}, nil, {}, {"7"}}}), "A!A1", "A!A1"},
		{made(table("B", "=A!A1+A1+B1"), table("A", "1")), "B!A1", "A!A1 B!A1"},
		{made(table("A", "=A1:B3|no"), table("A", "=B1", "1|2")), "A!A1", "A!A1 B1"},
		{made(table("A", "1"), table("A", "=A1", "=A1")), "A!A1", ""},
		{made(table("A", "1"), table("A", "=A1", "=A1")), "A!A2", ""},
		{made(table("", "=A1+A!A1", "2"), table("A", "=A1")), "!A1", "!A1 A!A1"},
		{made(table("1 x", "=A2+A!A1", "2"), table("A", "=A1")), "1 x!A1", "1 x!A2 A!A1"},
		{made(table("A", "=A2+B2", "=x|=1 "), table("F", "1")), "A!A1", "A!A2 B2"},
		{made(table("F", "1"), table("E", "1"), table("D", "1"), table("C", "1"), table("B", "1"), table("A", "=F!A1+E!A1+D!A1+C!A1+B!A1+A1")), "A!A1", "A!A1 B!A1 C!A1 D!A1 E!A1 F!A1"},
	} {
		want := list(c.want)
		if strings.HasPrefix(c.s, "1 x") {
			want = []api.Spot{at("1 x!A2"), at("A!A1")}
		}
		if got := Needs(c.b, at(c.s)); !slices.Equal(got, want) {
			t.Errorf("13.1: Needs of book %d: %v, not %v", i, got, want)
		}
		check(t, c.b)
	}
}

// 13.1: a sheet far greater than may be: references reach its first 999 rows and 702 columns.
func TestNeedsGreat(t *testing.T) {
	row := make([]string, api.MaxCol+9)
	s := api.Sheet{Name: "A", Rows: slices.Repeat([][]string{row}, 1<<16)}
	first := slices.Clone(row)
	first[0] = "=SUM(" + strings.Repeat("A1:ZZ999,", 30) + "B2)"
	s.Rows[0] = first
	got := Needs(made(s), at("A!A1"))
	if len(got) != 999*702 {
		t.Fatal("13.1: Needs of a great sheet:", len(got))
	}
	for i, s := range got {
		if want := (api.Spot{Sheet: "A", Row: i / 702, Col: i % 702}); s != want {
			t.Fatalf("13.1: Needs of a great sheet: %d. is %v", i, s)
		}
	}
	first[0] = "=ZZ999+ZZ1+AA100+Z100+A999+AZ9"
	if got := Needs(made(s), at("A!A1")); !slices.Equal(got, list("A!ZZ1 AZ9 Z100 AA100 A999 ZZ999")) {
		t.Error("13.1: Needs of a great sheet:", got)
	}
	s.Rows[1<<16-1] = []string{"=A1"}
	if got := Needs(made(s), api.Spot{Sheet: "A", Row: 1<<16 - 1}); !slices.Equal(got, list("A!A1")) {
		t.Error("13.1: Needs of a great sheet's last row:", got)
	}
}

// greatest tells a book with as many cells as may be, each with what is told of its number.
func greatest(text func(n int) string) api.Book {
	var b api.Book
	n := 0
	for _, name := range []string{"A", "B", "C", "D", "E"} {
		s := api.Sheet{Name: name, Cols: api.MaxCols}
		for range api.MaxRows {
			row := make([]string, api.MaxCols)
			for j := range row {
				row[j] = text(n)
				n++
			}
			s.Rows = append(s.Rows, row)
		}
		b.Sheets = append(b.Sheets, s)
	}
	return b
}

const cells = api.MaxSheets * api.MaxRows * api.MaxCols

// spot tells the n-th cell of the greatest book.
func spot(n int) api.Spot {
	return api.Spot{Sheet: "ABCDE"[n/288 : n/288+1], Row: n / 12 % 24, Col: n % 12}
}

// naming tells a formula that names the n-th cell of the greatest book; one that names none, if there is none.
func naming(n int) string {
	if n < 0 || n >= cells {
		return "=1"
	}
	s := spot(n)
	return "=" + s.Sheet + "!" + string(rune('A'+s.Col)) + strconv.Itoa(s.Row+1)
}

// 13.2: the greatest book: one chain through all cells, from both ends; circles; all cells in need of all.
func TestOrderGreatest(t *testing.T) {
	up := func(n int) int { return n }
	for what, c := range map[string]struct {
		text  func(n int) string
		comes int             // how many
		nth   func(n int) int // which one comes as the n-th
	}{
		"free":      {func(n int) string { return "=1" }, cells, up},
		"forwards":  {func(n int) string { return naming(n - 1) }, cells, up},
		"backwards": {func(n int) string { return naming(n + 1) }, cells, func(n int) int { return cells - 1 - n }},
		"circle":    {func(n int) string { return naming((n + 1) % cells) }, 0, up},
		"its own":   {naming, 0, up},
		"all":       {func(n int) string { return "=SUM(A!A1:L24,B!A1:L24,C!A1:L24,D!A1:L24,E!A1:L24)" }, 0, up},
		"half":      {func(n int) string { return naming(max(n-1, min(n, cells/2))) }, 0, up},
		"behind":    {func(n int) string { return naming([]int{n - 1, n}[n/700%2]) }, 700, up},
	} {
		b := greatest(c.text)
		order, cyclic := Order(b)
		if len(order) != c.comes || len(cyclic) != cells-c.comes {
			t.Errorf("13.2: Order of the greatest book, %s: %d and %d", what, len(order), len(cyclic))
		}
		for i, s := range order {
			if s != spot(c.nth(i)) {
				t.Errorf("13.2: Order of the greatest book, %s: the %d. is %v", what, i, s)
				break
			}
		}
		checkOrder(t, b)
	}
}
