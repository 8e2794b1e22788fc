package calc

import (
	"fmt"
	"math"
	"slices"
	"strings"
	"testing"

	"chequer/api"
	"chequer/parse"
)

const (
	most  = math.MaxInt
	least = math.MinInt
)

var (
	none = api.Val{}
	yes  = api.Val{Kind: api.VBool, N: 1}
	not  = api.Val{Kind: api.VBool}
)

func num(n int) api.Val { return api.Val{Kind: api.VInt, N: n} }

func str(s string) api.Val { return api.Val{Kind: api.VText, S: s} }

func no(n int) api.Val { return api.Val{Kind: api.VErr, N: n} }

func bin(is bool) api.Val {
	if is {
		return yes
	}
	return not
}

// told tells a value with all its fields.
func told(v api.Val) string {
	return fmt.Sprintf("{%d %d %.60q}", v.Kind, v.N, v.S)
}

// table tells a sheet; its rows are written with | between the cells.
func table(name string, rows ...string) api.Sheet {
	s := api.Sheet{Name: name}
	for _, row := range rows {
		s.Rows = append(s.Rows, strings.Split(row, "|"))
		s.Cols = len(s.Rows[0])
	}
	return s
}

func made(l ...api.Sheet) api.Book { return api.Book{Sheets: l} }

// mixed is a book whose cells' values are none that their texts would have: Eval hangs on the values alone.
func mixed() (api.Book, [][][]api.Val) {
	b := made(table("A", "||", "'t|=A1|", "||5"), table("B", "", "=B1"), api.Sheet{Name: "C", Cols: 3},
		api.Sheet{Name: "D", Rows: [][]string{{}, nil}}, table("a", "'q|"))
	return b, [][][]api.Val{
		{{num(2), str("x"), none}, {yes, num(-5), no(api.ENum)}, {num(0), str(""), num(most)}},
		{{num(7)}, {not}},
		{},
		{{}, nil},
		{{num(100), str("é")}},
	}
}

// nodes tells those of a formula that there is.
func nodes(t *testing.T, s string) []api.Node {
	t.Helper()
	l, e := parse.Parse(s)
	if e != api.OK {
		t.Fatalf("no formula: %q", s)
	}
	return l
}

// evals expects of formulas on a sheet what Eval tells beside the mixed book's values.
func evals(t *testing.T, own string, want map[string]api.Val) {
	t.Helper()
	b, vals := mixed()
	for s, v := range want {
		if got := Eval(nodes(t, s), own, b, vals); got != v {
			t.Errorf("14.1: %.80s on %q: %s, not %s", s, own, told(got), told(v))
		}
	}
}

func TestExample(t *testing.T) {
	b := made(table("A", "2|=A1+1"))
	if got := Eval(nodes(t, "A1+1"), "A", b, [][][]api.Val{{{num(2), none}}}); got != num(3) {
		t.Error("14.1: the example:", told(got))
	}
	if got := Values(b); len(got) != 1 || len(got[0]) != 1 || !slices.Equal(got[0][0], []api.Val{num(2), num(3)}) {
		t.Error("14.2: the example:", got)
	}
}

// 14.1: numbers, texts, truths, dead references.
func TestLeaves(t *testing.T) {
	long := strings.Repeat("x", api.MaxResult-1)
	for _, own := range []string{"A", "B", "", "Nowhere"} {
		evals(t, own, map[string]api.Val{
			"0": num(0), "1": num(1), "7": num(7), "9223372036854775807": num(most),
			`""`: str(""), `"x"`: str("x"), `" "`: str(" "), `"a""b"`: str(`a"b`), `"5"`: str("5"), `"TRUE"`: str("TRUE"), `"A1"`: str("A1"), `"#REF!"`: str("#REF!"), `"=A1"`: str("=A1"), "\"\xff\"": str("\xff"),
			`"` + long + `"`: str(long), `"` + long + `y"`: str(long + "y"), `"` + long + `yz"`: no(api.EValue), `"` + long + strings.Repeat("z", 99) + `"`: no(api.EValue),
			`"` + strings.Repeat("é", 100) + `"`: str(strings.Repeat("é", 100)), `"` + strings.Repeat("é", 101) + `"`: no(api.EValue), `"x` + strings.Repeat("é", 100) + `"`: no(api.EValue), `"` + strings.Repeat(`""`, 140) + `"`: str(strings.Repeat(`"`, 140)),
			"TRUE": yes, "FALSE": not, "#REF!": no(api.ERef), "(5)": num(5), `("x")`: str("x"), "(#REF!)": no(api.ERef),
		})
	}
}

// 14.1: longer texts than a formula has room for.
func TestLongTexts(t *testing.T) {
	b, vals := mixed()
	for n, want := range map[int]api.Val{0: str(""), 199: str(strings.Repeat("a", 199)), 200: str(strings.Repeat("a", 200)), 201: no(api.EValue), 202: no(api.EValue), 300: no(api.EValue), 1 << 20: no(api.EValue)} {
		leaf := api.Node{Kind: api.NText, Text: strings.Repeat("a", n)}
		if got := Eval([]api.Node{leaf}, "A", b, vals); got != want {
			t.Errorf("14.1: a text of %d bytes: %s", n, told(got))
		}
		if got := Eval([]api.Node{leaf, {Kind: api.NCall, Text: "ISERR", Kids: []int{0}}}, "A", b, vals); got != bin(n > 200) {
			t.Errorf("14.1: ISERR of a text of %d bytes: %s", n, told(got))
		}
	}
}

// 14.1: references to cells of its own sheet and of others, absolute and relative, to cells and sheets that there are not.
func TestReferences(t *testing.T) {
	named := map[string]api.Val{
		"A!A1": num(2), "A!B1": str("x"), "A!C1": none, "A!A2": yes, "A!B2": num(-5), "A!C2": no(api.ENum), "A!A3": num(0), "A!B3": str(""), "A!C3": num(most), "A!$A1": num(2), "A!B$2": num(-5), "A!$C$3": num(most),
		"B!A1": num(7), "B!A2": not, "B!$A$2": not, "a!A1": num(100), "a!B1": str("é"),
		"A!D1": none, "A!A4": none, "A!D4": none, "A!ZZ999": none, "A!$A$999": none, "A!ZZ1": none, "B!B1": none, "B!A3": none, "C!A1": none, "C!C1": none, "D!A1": none, "D!A2": none, "D!A3": none, "a!C1": none, "a!A2": none,
		"X!A1": no(api.ERef), "b!A1": no(api.ERef), "AA!A1": no(api.ERef), "A1!A1": no(api.ERef), "TRUE!A1": no(api.ERef), "X!ZZ999": no(api.ERef), "E!$A$1": no(api.ERef),
	}
	for _, own := range []string{"A", "B", "C", "D", "a", "X", "", "A!", "\xff"} {
		evals(t, own, named)
	}
	evals(t, "A", map[string]api.Val{"A1": num(2), "B1": str("x"), "C1": none, "A2": yes, "B2": num(-5), "C2": no(api.ENum), "A3": num(0), "B3": str(""), "C3": num(most), "$A1": num(2), "B$2": num(-5), "$C$3": num(most), "D1": none, "A4": none, "D4": none, "ZZ999": none, "(A1)": num(2)})
	evals(t, "B", map[string]api.Val{"A1": num(7), "A2": not, "$A$1": num(7), "A3": none, "B1": none, "ZZ999": none})
	evals(t, "C", map[string]api.Val{"A1": none, "C1": none, "D1": none})
	evals(t, "D", map[string]api.Val{"A1": none, "A2": none, "A3": none})
	evals(t, "a", map[string]api.Val{"A1": num(100), "B1": str("é"), "C1": none, "A2": none})
	for _, own := range []string{"X", "", "b", "AA", "A!", "A!A1", "\x00", strings.Repeat("A", 1<<16)} {
		evals(t, own, map[string]api.Val{"A1": no(api.ERef), "$B$2": no(api.ERef), "ZZ999": no(api.ERef), "A1+1": no(api.ERef), "SUM(A1)": no(api.ERef), "SUM(A1:B2)": no(api.ERef), "A1:B2": no(api.EValue)})
	}
}

// 14.1: each operation, of numbers, texts, truths, nothing and errors.
func TestOperations(t *testing.T) {
	evals(t, "A", map[string]api.Val{
		"1+2": num(3), "A1+B!A1": num(9), "C1+1": num(1), "C1+C1": num(0), "C3+1": no(api.ENum), "B2+C3": num(most - 5), "A1+B1": no(api.EValue), "A2+1": no(api.EValue), "1+C2": no(api.ENum),
		"5-7": num(-2), "1-2-3": num(-4), "1-(2-3)": num(2), "B2-C3": no(api.ENum), "B2-C3+9": no(api.ENum), "D9-A1": num(-2), `"5"-1`: no(api.EValue),
		"3*4": num(12), "A1*B2": num(-10), "C3*A1": no(api.ENum), "C3*C1": num(0), "B1*0": no(api.EValue),
		"7/2": num(3), "B2/A1": num(-2), "-7/2": num(-3), "A1/A3": no(api.EDiv), "A1/C1": no(api.EDiv), "8/4/2": num(1), "8/(4/2)": num(4), "B1/0": no(api.EValue), "(-9223372036854775807-1)/-1": no(api.ENum), "(-9223372036854775807-1)/1": num(least),
		"-5": num(-5), "--5": num(5), "-B2": num(5), "-C1": num(0), "-B1": no(api.EValue), "-A2": no(api.EValue), "-C2": no(api.ENum), "-(-9223372036854775807-1)": no(api.ENum), "-C3-1": num(least), "-#REF!": no(api.ERef),
		`"a"&"b"`: str("ab"), "A1&B1": str("2x"), "A1&A2&C1&B2": str("2TRUE-5"), "C1&C1": str(""), "1&2+3": str("15"), "C2&1": no(api.ENum), "a!B1&a!B1": str("éé"),
		"1=1": yes, "1=2": not, "A1=2": yes, `B1="x"`: yes, `B1="X"`: not, "C1=0": yes, `C1=""`: yes, "C1=FALSE": yes, "C1=C1": yes, "C1=D9": yes, "A3=B3": not, "A2=TRUE": yes, "A2=1": not,
		"1<>1": not, "1<>2": yes, "C1<>0": not, "A3<>B!A2": yes, "1<2": yes, "2<1": not, "1<1": not, `9<""`: yes, `"z"<FALSE`: yes, "B2<C1": yes, "A2<0": not, `"B"<"a"`: yes,
		"1<=1": yes, "2<=1": not, "C1<=B2": not, "1>2": not, "2>1": yes, "1>1": not, "A2>C3": yes, "B3>C3": yes, "B1>B3": yes, "1>=1": yes, "1>=2": not, "C1>=B!A2": yes, "1<2=TRUE": yes, "2>1>0": yes, "C2=C2": no(api.ENum), "1<#REF!": no(api.ERef),
		"1+2*3": num(7), "(1+2)*3": num(9), "2*3&1+1": str("62"), "1+1=2": yes, "1&1=11": not, `1&1="11"`: yes,
	})
}

// 14.1: each function, of single values and of Ranges.
func TestFunctions(t *testing.T) {
	evals(t, "A", map[string]api.Val{
		"SUM(1,2)": num(3), "SUM(A1:B1)": num(2), "SUM(A1:A3)": num(2), "SUM(A1,B!A1)": num(9), "SUM(A1:B3,a!A1:B1,5)": num(102), "SUM(C1)": num(0), "SUM(B1)": no(api.EValue), "SUM(A2)": no(api.EValue), "SUM(C3,1)": no(api.ENum), "SUM(C1:C2)": no(api.ENum), "SUM(C3:C9,C3)": no(api.ENum), "SUM()": no(api.EValue),
		"MIN(A1:B3)": num(-5), "MIN(3,1,2)": num(1), "MIN(B1:B1)": num(0), "MIN(B!A1:A2,8)": num(7), "MAX(A1:B3)": num(2), "MAX(A1:B3,C3)": num(most), "MAX(B2:B3)": num(-5), "MAX(D1:E2)": num(0), "MAX(TRUE)": no(api.EValue),
		"COUNT(A1:C3)": num(4), "COUNT(A1:C3,1,B!A1:A2)": num(6), "COUNT(C2,B1,C1)": num(0), "COUNT(1/0,2)": num(1), "COUNT(X!A1:A2,X!A1,3)": num(1),
		"AND(A1,A2)": yes, "AND(A1:A3)": not, "AND(A1:B2)": yes, "AND(B1:B1)": no(api.EValue), "AND(B1)": no(api.EValue), "AND(C1)": no(api.EValue), "OR(A3,B!A2)": not, "OR(A1:A3)": yes, "OR(A3:B3,B!A1)": yes, "OR(C2,TRUE)": no(api.ENum),
		"IF(A1,B1,B2)": str("x"), "IF(A3,B1,B2)": num(-5), "IF(C1,1)": not, "IF(A2,C2,1)": no(api.ENum), "IF(A2,1,C2)": num(1), "IF(A3,C2,B1)": str("x"), "IF(C2,1,2)": no(api.ENum), "IF(B1,1,2)": no(api.EValue), "IF(TRUE,C1,2)": none, "IF(A1:A2,1,2)": no(api.EValue), "IF(TRUE,A1:A2,2)": no(api.EValue), "IF(TRUE)": no(api.EValue), "IF(TRUE,1,X!A1:A2)": num(1), "IF(TRUE,X!A1:A2,1)": no(api.ERef),
		"NOT(A1)": not, "NOT(A3)": yes, "NOT(C1)": yes, "NOT(B1)": no(api.EValue), "NOT(C2)": no(api.ENum), "NOT(A1:A1)": no(api.EValue), "ABS(B2)": num(5), "ABS(C1)": num(0), "ABS(-C3-1)": no(api.ENum), "ABS(A2)": no(api.EValue),
		"MOD(7,3)": num(1), "MOD(B2,3)": num(1), "MOD(5,-3)": num(-1), "MOD(A1,A3)": no(api.EDiv), "MOD(B1,1)": no(api.EValue), "MOD(1,C2)": no(api.ENum), "MOD(1)": no(api.EValue),
		"LEN(B1)": num(1), "LEN(a!B1)": num(2), "LEN(C3)": num(19), "LEN(C1)": num(0), "LEN(A2)": num(4), "LEN(C2)": no(api.ENum), `LEFT("abc",2)`: str("ab"), "LEFT(A2,1)": str("T"), "LEFT(C3,C1)": str(""), `RIGHT("abc",2)`: str("bc"), "RIGHT(C3,3)": str("807"), "RIGHT(1,-1)": no(api.EValue), `MID("abcd",2,2)`: str("bc"), `MID("abcd",0,2)`: no(api.EValue), "MID(C3,3,A1)": str("23"),
		"CONCAT(A1:C1)": str("2x"), "CONCAT(A1:B3,C3)": str("2xTRUE-509223372036854775807"), "CONCAT(B!A1:A2)": str("7FALSE"), "CONCAT(C1:C1)": str(""), "CONCAT(C1:C2)": no(api.ENum), "CONCAT(A1,B!A1,C1)": str("27"),
		"ISERR(C2)": yes, "ISERR(A1)": not, "ISERR(C1)": not, "ISERR(1/0)": yes, "ISERR(#REF!)": yes, "ISERR(X!A1)": yes, "ISERR(X!A1:A2)": yes, "ISERR(NIX())": yes, "ISERR(A1:A1)": no(api.EValue), "ISERR(A1:A1+1)": yes,
		"NIX()": no(api.EName), "NIX(1)": no(api.EName), "NIX(C2)": no(api.EName), "NIX(A1:C3)": no(api.EName), "NIX(X!A1:A2)": no(api.EName),
		"SUM(SUM(A1,1),MAX(A1:B3)*2)": num(7), "IF(ISERR(C2),LEN(CONCAT(A1:B2)),0)": num(8), "IF(A1=2,IF(B2<0,\"low\",1),2)": str("low"), "-SUM(A1:A1)&\"%\"": str("-2%"), "SUM(-A1,-B2)": num(3),
	})
}

// 14.1: ranges as arguments: within a sheet, at its edge, beyond it, of sheets without rows or columns.
func TestRanges(t *testing.T) {
	evals(t, "A", map[string]api.Val{
		"ROWS(A1:A1)": num(1), "COLS(A1:A1)": num(1), "ROWS(A1:C3)": num(3), "COLS(A1:C3)": num(3), "ROWS(B2:C3)": num(2), "COLS(B2:C3)": num(2), "ROWS(A2:C2)": num(1), "COLS(C1:C3)": num(1), "ROWS($A$1:B$2)": num(2), "COLS($A$1:B$2)": num(2),
		"ROWS(A1:C4)": num(3), "COLS(A1:C4)": num(3), "ROWS(A1:D3)": num(3), "COLS(A1:D3)": num(3), "ROWS(A1:ZZ999)": num(3), "COLS(A1:ZZ999)": num(3), "ROWS(C3:ZZ999)": num(1), "COLS(C3:ZZ999)": num(1), "ROWS(A3:A999)": num(1), "COLS(C1:ZZ1)": num(1),
		"ROWS(A4:C9)": num(0), "COLS(A4:C9)": num(3), "COLS(B4:C9)": num(2), "COLS(B999:ZZ999)": num(2), "ROWS(D1:E2)": num(0), "COLS(D1:E2)": num(0), "ROWS(D4:ZZ999)": num(0), "COLS(D4:ZZ999)": num(0), "COLS(ZZ999:ZZ999)": num(0),
		"ROWS(B!A1:A9)": num(2), "COLS(B!A1:C9)": num(1), "COLS(B!B1:C9)": num(0), "ROWS(a!A1:B9)": num(1), "COLS(a!B1:Z9)": num(1), "ROWS(C!A1:B2)": num(0), "COLS(C!A1:B2)": num(2), "COLS(C!B1:Z9)": num(2), "COLS(C!D1:Z9)": num(0), "ROWS(D!A1:B2)": num(0), "COLS(D!A1:B2)": num(0), "COLS(D!B1:B2)": num(0),
		"COUNT(A1:ZZ999)": num(4), "COUNT(A3:ZZ999)": num(2), "COUNT(A4:ZZ999)": num(0), "COUNT(D1:ZZ999)": num(0), "COUNT(C!A1:ZZ999)": num(0), "COUNT(D!A1:ZZ999)": num(0), "SUM(A4:C9)": num(0), "SUM(B2:ZZ2)": no(api.ENum), "SUM(B3:ZZ999)": num(most), "CONCAT(A4:ZZ999)": str(""), "AND(A4:C9)": no(api.EValue), "MIN(D1:D9,4)": num(4),
		"CONCAT(A1:B3)": str("2xTRUE-50"), "CONCAT(B1:B3,A1:A3)": str("x-52TRUE0"), "CONCAT(A3:ZZ3)": str("09223372036854775807"), "CONCAT(a!A1:ZZ999)": str("100é"),
		"ROWS(X!A1:A2)": no(api.EValue), "COLS(X!A1:A2)": no(api.EValue), "SUM(X!A1:A2)": no(api.ERef), "SUM(1,X!A1:A2)": no(api.ERef), "LEN(X!A1:A2)": no(api.ERef), "NOT(X!A1:A2)": no(api.ERef), "COUNT(X!A1:A2)": num(0), "CONCAT(b!A1:A2)": no(api.ERef), "SUM(TRUE!A1:A2)": no(api.ERef), "LEN(A1:A1)": no(api.EValue), "ROWS(A1)": no(api.EValue), "COLS(5)": no(api.EValue), "ROWS(A1:A2,A1:A2)": no(api.EValue),
		"SUM((A1:A2))": num(2), "SUM(((A1:A2)))": num(2), "ROWS((A1:A2))": num(2),
	})
	evals(t, "B", map[string]api.Val{"SUM(A1:A9)": num(7), "ROWS(A1:A9)": num(2), "COLS(A1:C9)": num(1), "SUM(A!A1:B3)": num(-3), "CONCAT(A1:ZZ999)": str("7FALSE")})
	evals(t, "C", map[string]api.Val{"SUM(A1:C3)": num(0), "COLS(A1:C3)": num(3), "ROWS(A1:C3)": num(0)})
	evals(t, "D", map[string]api.Val{"SUM(A1:C3)": num(0), "COLS(A1:C3)": num(0), "ROWS(A1:C3)": num(0)})
	for _, own := range []string{"X", "", "b"} {
		evals(t, own, map[string]api.Val{"SUM(A1:A2)": no(api.ERef), "ROWS(A1:A2)": no(api.EValue), "COUNT(A1:A2,1)": num(1), "SUM(A!A1:A3)": num(2), "ISERR(A1:A2)": yes, "LEN(A1:A2)": no(api.ERef)})
	}
}

// 14.1: ranges anywhere but as an argument, whatever they name.
func TestRangesOutside(t *testing.T) {
	want := map[string]api.Val{}
	for _, s := range []string{"A1:A1", "A1:B2", "A!A1:B2", "$A$1:$B$2", "X!A1:A2", "C!A1:A1", "A4:A9", "ZZ999:ZZ999", "C1:C1"} {
		want[s], want["("+s+")"], want["-"+s] = no(api.EValue), no(api.EValue), no(api.EValue)
		for _, sign := range []string{"=", "<>", "<", "<=", ">", ">=", "&", "+", "-", "*", "/"} {
			want[s+sign+"1"], want["1"+sign+s], want[s+sign+s] = no(api.EValue), no(api.EValue), no(api.EValue)
			want["SUM("+s+sign+"1)"], want["COUNT("+s+sign+"1,2)"], want["1/0"+sign+s], want[s+sign+"#REF!"] = no(api.EValue), num(1), no(api.EDiv), no(api.EValue)
		}
		want["SUM(-"+s+")"], want["ROWS(-"+s+")"] = no(api.EValue), no(api.EValue)
		want["IF(1,2,-"+s+")"], want["IF(-"+s+",2,3)"] = num(2), no(api.EValue)
	}
	evals(t, "A", want)
}

// 14.1: of several errors that from the left, but where a function says otherwise.
func TestErrors(t *testing.T) {
	all := map[string]api.Val{`"x"+1`: no(api.EValue), "A!C2": no(api.ENum), "1/0": no(api.EDiv), "#REF!": no(api.ERef), "NIX(2)": no(api.EName)}
	want := map[string]api.Val{}
	for a, first := range all {
		for b, second := range all {
			for _, sign := range []string{"=", "<>", "<", "<=", ">", ">=", "&", "+", "-", "*", "/"} {
				want["("+a+")"+sign+"("+b+")"] = first
				want["1"+sign+"("+b+")"] = second
				want["("+a+")"+sign+`"x"`] = first
			}
			for _, name := range []string{"SUM", "MIN", "MAX", "AND", "OR", "CONCAT", "MOD", "LEFT", "RIGHT"} {
				want[name+"("+a+","+b+")"] = first
				want[name+"(1,"+b+")"] = second
			}
			want["MID(1,"+a+","+b+")"], want["MID("+a+",2,"+b+")"], want["MID("+a+","+b+",3)"] = first, first, first
			want["SUM(A!A1:B3,"+a+","+b+",A!C1:C3)"], want["SUM(A!C1:C3,"+a+","+b+")"] = first, no(api.ENum)
			want["IF("+a+","+b+",1)"], want["IF(TRUE,"+a+","+b+")"], want["IF(FALSE,"+a+","+b+")"] = first, first, second
			want["COUNT("+a+",1,"+b+")"], want["NIX("+a+","+b+")"], want["ISERR("+a+","+b+")"] = num(1), no(api.EName), no(api.EValue)
			want["IF(ISERR("+a+"),IF(ISERR("+b+"),7,8),9)"] = num(7)
		}
		want["-("+a+")"], want["NOT("+a+")"], want["ABS("+a+")"], want["LEN("+a+")"], want["ISERR("+a+")"], want["ROWS("+a+")"], want["IF(TRUE,5,"+a+")"] = first, first, first, first, yes, no(api.EValue), num(5)
	}
	evals(t, "A", want)
}

// 14.1: each error that a cell may have goes on.
func TestErrorsOfCells(t *testing.T) {
	b := made(table("A", "|||||"))
	vals := [][][]api.Val{{{no(api.EValue), no(api.ENum), no(api.EDiv), no(api.ERef), no(api.EName), no(api.ECycle)}}}
	for i, v := range vals[0][0] {
		at := string(rune('A'+i)) + "1"
		for s, want := range map[string]api.Val{"": v, "-": v, "1+": v, "A!": v} {
			if got := Eval(nodes(t, s+at), "A", b, vals); got != want {
				t.Errorf("14.1: %s: %s, not %s", s+at, told(got), told(want))
			}
		}
		for s, want := range map[string]api.Val{"SUM(" + at + ":F1)": v, "SUM(1," + at + ")": v, "ISERR(" + at + ")": yes, "COUNT(" + at + ":Z9)": num(0), "COLS(" + at + ":Z9)": num(6 - i), at + "+A1": v, "A1+" + at: no(api.EValue)} {
			if got := Eval(nodes(t, s), "A", b, vals); got != want {
				t.Errorf("14.1: %s: %s, not %s", s, told(got), told(want))
			}
		}
	}
}
