package calc

import (
	"fmt"
	"slices"
	"strings"
	"testing"

	"chequer/api"
	"chequer/val"
)

// shown tells values as their texts, those of VText in `"`, with | between the cells, / behind a row, ; behind a sheet.
func shown(vals [][][]api.Val) string {
	var s strings.Builder
	for _, sheet := range vals {
		for _, row := range sheet {
			for i, v := range row {
				if i > 0 {
					s.WriteString("|")
				}
				if v.Kind == api.VText {
					fmt.Fprintf(&s, "%q", v.S)
				} else {
					s.WriteString(val.Text(v))
				}
			}
			s.WriteString("/")
		}
		s.WriteString(";")
	}
	return s.String()
}

// valued expects of a book's sheets their values as shown tells them; check holds each of their fields.
func valued(t *testing.T, want string, sheets ...api.Sheet) {
	t.Helper()
	b := made(sheets...)
	if got := shown(Values(b)); got != want {
		t.Errorf("14.2: Values of\n%s: %s, not %s", dump(b), got, want)
	}
	check(t, b)
}

// 14.2: cells without formulas.
func TestPlainCells(t *testing.T) {
	valued(t, `1|-5|0|9223372036854775807|-9223372036854775808/;`, table("A", "1|-5|0|9223372036854775807|-9223372036854775808"))
	valued(t, `|"x"|""|"=A1"|"5"|"'x"|"TRUE"|"#REF!"|" "/;`, table("A", "|'x|'|'=A1|'5|''x|'TRUE|'#REF!|' "))
	long := strings.Repeat("x", api.MaxResult)
	valued(t, `"`+long+`"|#VALUE!|#VALUE!|#VALUE!|FALSE/;`, table("A", "'"+long+"|'"+long+"x|'"+long+strings.Repeat("y", 99)+"|=B1|=ISERR(A1)"))
	got := Values(made(table("A", "|'x|7")))
	if !slices.Equal(got[0][0], []api.Val{none, str("x"), num(7)}) {
		t.Error("14.2: Values of plain cells:", got)
	}
}

// 14.2: books without cells: each sheet has its list, each row its own.
func TestNoCells(t *testing.T) {
	valued(t, "")
	valued(t, ";", api.Sheet{Name: "A"})
	valued(t, ";", api.Sheet{Name: "A", Cols: 12})
	valued(t, "/;", api.Sheet{Name: "A", Rows: [][]string{{}}})
	valued(t, "//;;/;", api.Sheet{Name: "A", Rows: [][]string{{}, nil}}, api.Sheet{Name: "B", Cols: 3}, api.Sheet{Name: "C", Rows: [][]string{nil}})
	valued(t, ";0|2|0|#VALUE!|/;", api.Sheet{Name: "A", Cols: 2}, table("B", "=ROWS(A!A1:C3)|=COLS(A!A1:C3)|=SUM(A!A1:C3)|=ROWS(A!A1)|=A!A1"))
	valued(t, "//;0|0|0|/;", api.Sheet{Name: "A", Rows: [][]string{{}, {}}}, table("B", "=ROWS(A!A1:C3)|=COLS(A!A1:C3)|=COUNT(A!A1:C3)|=A!A1"))
	for _, b := range []api.Book{{}, {Sheets: []api.Sheet{}}} {
		if got := Values(b); len(got) != 0 {
			t.Error("14.2: Values of an empty book:", got)
		}
	}
}

// 14.2: formulas of all kinds.
func TestFormulas(t *testing.T) {
	valued(t, `2|3/;`, table("A", "2|=A1+1"))
	valued(t, `5|"x"|TRUE|FALSE|#REF!|#VALUE!|-5/;`, table("A", `=5|="x"|=TRUE|=FALSE|=#REF!|=A1:B1|=-5`))
	valued(t, `4|"ab"|6|#VALUE!|8|2|-2|#DIV0!/;`, table("A", `4|="a"&"b"|=A1+2|=B1+1|=A1*2|=A1/2|=2-A1|=A1/0`))
	valued(t, `3|1|TRUE|FALSE|TRUE|TRUE|FALSE|FALSE/;`, table("A", `3|1|=A1<>B1|=A1=B1|=A1>B1|=A1>=B1|=A1<B1|=A1<=B1`))
	valued(t, `||0|0|TRUE|""/;`, table("A", `|=A1|=A1+B1|=SUM(A1:B1)|=A1=B1|=A1&B1`))
	valued(t, `#NUM!|-9223372036854775808|#NUM!|#NAME!/;`, table("A", "=9223372036854775807+1|=-9223372036854775807-1|=-B1|=NIX(A1)"))
	valued(t, `1|4|9/6|3|2/-3|TRUE|"149"/;`, table("A", "1|=2*2|=3*3", "=SUM(A1:C1)-8|=COUNT(A1:C1)|=MOD(C1+B1-A1,5)", "=MIN(A1:C1)-B1|=AND(A1:C2)|=CONCAT(A1:C1)"))
	valued(t, `"abc"|"a"|"bc"|"b"|3|FALSE|"yes"/;`, table("A", `'abc|=LEFT(A1,1)|=RIGHT(A1,2)|=MID(A1,2,1)|=LEN(A1)|=ISERR(A1)|=IF(E1=3,"yes","no")`))
	valued(t, `1|9|TRUE|1|2|FALSE|9/;`, table("A", "1|=MAX(A1,9)|=OR(A1,0)|=ROWS(A1:C1)|=COLS(A1:B1)|=NOT(A1)|=ABS(-B1)"))
}

// 14.2: formulas that need others: forwards, backwards, to and fro, across sheets, by way of ranges.
func TestChains(t *testing.T) {
	valued(t, `1|2|3|4/;`, table("A", "1|=A1+1|=B1+1|=C1+1"))
	valued(t, `4|3|2|1/;`, table("A", "=B1+1|=C1+1|=D1+1|1"))
	valued(t, `3|1|4|2/;`, table("A", "=D1+1|=1|=A1+1|=B1+1"))
	valued(t, `1/2/3/;`, table("A", "1", "=A1+1", "=A2+1"))
	valued(t, `3/2/1/;`, table("A", "=A2+1", "=A3+1", "=1"))
	valued(t, `4/2/;3/1/;`, table("A", "=B!A1+1", "=B!A2+1"), table("B", "=A!A2+1", "=1"))
	valued(t, `3/;2/;1/;`, table("A", "=B!A1+1"), table("B", "=C!A1+1"), table("C", "=1"))
	valued(t, `1/;3/;2/;`, table("A", "=1"), table("TRUE", "=a!A1+1"), table("a", "=A!A1+1"))
	valued(t, `10|1|2|7/;`, table("A", "=SUM(B1:Z9)|=1|=B1+1|=SUM(B1:C1)+4"))
	valued(t, `8|4|1/4|2|1/1|1|1/;`, table("A", "=SUM(A2,B1)|=SUM(B2:C2,C1)-B3+B3|=C2", "=A3+SUM(B2,C2)|=SUM(B3:C3)|=C3", "=B3|=C3|1"))
	valued(t, `2|5|#REF!|7/;`, table("A", "2|=A!A1+3|=X!A1+1|=$A$1+$B1"))
	valued(t, `1|2/;1|0/;`, table("A", "=A2+1|=ROWS(A1:A9)+C1+1"), table("B", "=A2+1|=A3+A9"))
	// Each formula names cells of its own sheet.
	valued(t, `1|2/;5|6/;"x"|#VALUE!/;|1/;`, table("A", "1|=A1+1"), table("B", "5|=A1+1"), table("C", "'x|=A1+1"), table("D", "|=A1+1"))
	// An error goes on to all in need of it, but where a function asks for it.
	valued(t, `#DIV0!|#DIV0!|#DIV0!|TRUE|0|7/;`, table("A", "=1/0|=A1+1|=SUM(A1:B1)|=ISERR(C1)|=COUNT(A1:C1)|=IF(D1,7,A1)"))
}

// 14.2: circles, cells in need of one, cells that stand beside one.
func TestCircles(t *testing.T) {
	valued(t, `#CYCLE!/;`, table("A", "=A1"))
	valued(t, `#CYCLE!/;`, table("A", "=A!$A$1"))
	valued(t, `#CYCLE!|#CYCLE!/;`, table("A", "=B1|=A1"))
	valued(t, `#CYCLE!|#CYCLE!|#CYCLE!/;`, table("A", "=B1|=C1|=A1"))
	valued(t, `#CYCLE!/;#CYCLE!/;`, table("A", "=B!A1"), table("B", "=A!A1"))
	valued(t, `#CYCLE!|#CYCLE!|#CYCLE!|5/;`, table("A", "=A1|=A1|=B1+D1|5"))
	valued(t, `#CYCLE!|3|4|/;`, table("A", "=A1+B1+C1|3|=B1+1|=D2"))
	valued(t, `2|#CYCLE!|3|3/;`, table("A", "2|=A1+B1|=A1+1|=C1"))
	// What asks for errors, takes one of two, counts rows, is on a circle all the same.
	valued(t, `#CYCLE!|#CYCLE!|#CYCLE!|#CYCLE!/;`, table("A", "=ISERR(A1)|=IF(TRUE,1,B1)|=COUNT(C1)|=ROWS(A1:D1)"))
	valued(t, `#CYCLE!|#CYCLE!|#CYCLE!|#CYCLE!/;`, table("A", "=A1|=ISERR(A1)|=IF(FALSE,A1,2)|=COLS(A1:B1)"))
	valued(t, `#CYCLE!|#CYCLE!|#CYCLE!/;`, table("A", "=NIX(A1)|=A1:A1|=A1:B1+1"))
	valued(t, `#CYCLE!|#CYCLE!/1|#CYCLE!/;`, table("A", "=SUM(A1:B1)|=SUM(A2:B2)", "1|=SUM(A1:A2)"))
	valued(t, `#CYCLE!|3/2|1/;`, table("A", "=SUM(A1:B2)|=A2+B2", "2|1"))
	// To another sheet and back is no circle by itself.
	valued(t, `7|7|7/;7/7/;`, table("A", "=B!A1|=C1|7"), table("B", "=A!B1", "=A!A1"))
	valued(t, `#CYCLE!|7|7/;#CYCLE!/#CYCLE!/;`, table("A", "=B!A1|=C1|7"), table("B", "=A!A1", "=A!A1"))
	// A sheet's name in small letters is another one's.
	valued(t, `#REF!/;`, table("A", "=a!A1"))
	valued(t, `3/;3/;`, table("A", "=a!A1"), table("a", "3"))
}

// 14.2: books that may not be.
func TestNoBooks(t *testing.T) {
	fine := table("A", "1|=A1+1")
	many := []api.Sheet{}
	for _, name := range []string{"A", "B", "C", "D", "E", "F"} {
		many = append(many, table(name, "1"))
	}
	high := api.Sheet{Name: "A", Cols: 1}
	for range api.MaxRows + 1 {
		high.Rows = append(high.Rows, []string{"1"})
	}
	for name, b := range map[string]api.Book{
		"no name": made(table("", "1")), "a digit": made(table("1", "5")), "a sign": made(table("A!", "1")), "a long name": made(table("Abcdefghijklm", "1")),
		"falling": made(table("B", "1"), fine), "twice": made(fine, fine), "six": made(many...), "the last one wrong": made(fine, table("_", "1")),
		"too wide": made(api.Sheet{Name: "A", Cols: 13, Rows: [][]string{make([]string, 13)}}), "too high": made(high), "below 0": made(api.Sheet{Name: "A", Cols: -1}), "far below 0": made(api.Sheet{Name: "A", Cols: least}), "far too wide": made(api.Sheet{Name: "A", Cols: most}),
		"fewer cells": made(api.Sheet{Name: "A", Cols: 2, Rows: [][]string{{"1", "2"}, {"1"}}}), "more cells": made(api.Sheet{Name: "A", Cols: 1, Rows: [][]string{{"1", "2"}}}), "a nil row": made(api.Sheet{Name: "A", Cols: 1, Rows: [][]string{nil}}),
		"no mark": made(table("A", "1|x")), "noughts": made(table("A", "1|007")), "no number": made(table("A", "1|-0")), "no formula": made(table("A", "1|=A1+")), "a blank": made(table("A", "1|=A1 ")), "brackets": made(table("A", "1|=(A1)")), "too long": made(table("A", "1|'"+strings.Repeat("x", 300))), "a range turned round": made(table("A", "1|=A2:A1")),
	} {
		if got := Values(b); len(got) != 0 {
			t.Errorf("14.2: Values of a book that may not be (%s): %s", name, shown(got))
		}
	}
	if got := shown(Values(made(fine))); got != "1|2/;" {
		t.Error("14.2: Values of a book that may be:", got)
	}
}

// 14.2: the greatest book, each cell in need of the one behind it, of the one ahead of it, of all that are ahead of it.
func TestGreatestBooks(t *testing.T) {
	last := api.MaxSheets*api.MaxRows*api.MaxCols - 1
	got := Values(greatest(func(n int) string {
		if n == last {
			return "1"
		}
		return naming(n+1) + "+1"
	}))
	for n := range last + 1 {
		if v := cellOf(got, n); v != num(last+1-n) {
			t.Fatalf("14.2: a chain from behind: %d. is %s", n, told(v))
		}
	}
	got = Values(greatest(func(n int) string {
		if n == 0 {
			return "=0-1"
		}
		return naming(n-1) + "-1"
	}))
	for n := range last + 1 {
		if v := cellOf(got, n); v != num(-n-1) {
			t.Fatalf("14.2: a chain: %d. is %s", n, told(v))
		}
	}
	got = Values(greatest(func(n int) string { return naming((n + 1) % (last + 1)) }))
	for n := range last + 1 {
		if v := cellOf(got, n); v != no(api.ECycle) {
			t.Fatalf("14.2: a circle of all: %d. is %s", n, told(v))
		}
	}
}

// 14.2: the greatest book whose formulas name as much as they can.
func TestFullBook(t *testing.T) {
	all := "=SUM(S0!A1:L24"
	for len(all) < 280 {
		all += ",S0!A1:L24"
	}
	b := greatest(func(n int) string {
		if n < api.MaxRows*api.MaxCols {
			return "1"
		}
		return all + ")"
	})
	times := strings.Count(all, "S0!")
	got := Values(b)
	for n := range api.MaxSheets * api.MaxRows * api.MaxCols {
		want := num(1)
		if n >= api.MaxRows*api.MaxCols {
			want = num(times * api.MaxRows * api.MaxCols)
		}
		if v := cellOf(got, n); v != want {
			t.Fatalf("14.2: a full book: %d. is %s", n, told(v))
		}
	}
}

// greatest tells the greatest book there may be, its cells by their numbers.
func greatest(text func(n int) string) api.Book {
	var b api.Book
	n := 0
	for i := range api.MaxSheets {
		s := api.Sheet{Name: fmt.Sprint("S", i), Cols: api.MaxCols}
		for range api.MaxRows {
			row := make([]string, api.MaxCols)
			for j := range row {
				row[j] = text(n)
				n++
			}
			s.Rows = append(s.Rows, row)
		}
		b.Sheets = append(b.Sheets, s)
	}
	return b
}

// naming tells a formula that is the reference of the n-th cell of the greatest book.
func naming(n int) string {
	per := api.MaxRows * api.MaxCols
	return fmt.Sprintf("=S%d!%c%d", n/per, 'A'+n%api.MaxCols, n%per/api.MaxCols+1)
}

// cellOf tells the value of the n-th cell of the greatest book.
func cellOf(vals [][][]api.Val, n int) api.Val {
	per := api.MaxRows * api.MaxCols
	return vals[n/per][n%per/api.MaxCols][n%api.MaxCols]
}
