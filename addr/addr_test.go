package addr

import (
	"fmt"
	"math"
	"regexp"
	"strings"
	"testing"

	"chequer/api"
)

// whole is the form of a reference's text: a sheet and its mark, a mark, a column, a mark, a row.
var whole = regexp.MustCompile(`^(?:([A-Za-z][A-Za-z0-9]{0,11})!)?(\$?)([A-Z]{1,2})(\$?)([1-9][0-9]{0,2})$`)

// theirs reads a reference by its form.
func theirs(s string) (api.Ref, bool) {
	m := whole.FindStringSubmatch(s)
	if m == nil {
		return api.Ref{}, false
	}
	col := 0
	for _, c := range m[3] {
		col = col*26 + strings.IndexRune("ABCDEFGHIJKLMNOPQRSTUVWXYZ", c) + 1
	}
	row := 0
	fmt.Sscan(m[5], &row)
	return api.Ref{Sheet: m[1], Col: col - 1, Row: row - 1, AbsCol: m[2] != "", AbsRow: m[4] != ""}, true
}

// check holds what Read tells of s against its form, and against Text (3.2, 3.3).
func check(t *testing.T, s string) {
	t.Helper()
	r, ok := Read(s)
	if r2, ok2 := theirs(s); r != r2 || ok != ok2 {
		t.Fatalf("3.2: Read(%.60q): %v, %v", s, r, ok)
	}
	if ok && (Text(r) != s || !May(r)) {
		t.Fatalf("3.3: Text(%v): %q, not %q", r, Text(r), s)
	}
	if !ok && r != (api.Ref{}) {
		t.Fatalf("R4: Read(%.60q): %v", s, r)
	}
}

// noCol expects that s is no column.
func noCol(t *testing.T, s string) {
	t.Helper()
	if n, ok := ReadCol(s); n != 0 || ok {
		t.Fatalf("3.1: ReadCol(%.60q): %d, %v", s, n, ok)
	}
}

// noRef expects that s is no reference.
func noRef(t *testing.T, s string) {
	t.Helper()
	if r, ok := Read(s); r != (api.Ref{}) || ok {
		t.Fatalf("3.2: Read(%.60q): %v, %v", s, r, ok)
	}
}

// long are texts that are far longer than any part of a reference.
func long() []string {
	var l []string
	for _, s := range []string{"A", "Z", "a", "0", "1", "9", "$", "!", " ", "A1", "A!", "$A", "\x00", "\xff", "ä"} {
		for _, n := range []int{13, 14, 20, 64, 1 << 16} {
			l = append(l, strings.Repeat(s, n))
		}
	}
	return l
}

// refs are references of all kinds: with and without a sheet, with and without marks, at all edges.
func refs() []api.Ref {
	var l []api.Ref
	for _, sheet := range []string{"", "S1", "a", "Z", "A1", "AA10", "abcdefghijkl"} {
		for _, col := range []int{0, 1, 25, 26, 27, 51, 52, 675, 676, 700, api.MaxCol} {
			for _, row := range []int{0, 1, 8, 9, 10, 98, 99, 100, 500, api.MaxRow - 1, api.MaxRow} {
				for abs := range 4 {
					l = append(l, api.Ref{Sheet: sheet, Col: col, Row: row, AbsCol: abs&1 != 0, AbsRow: abs&2 != 0})
				}
			}
		}
	}
	return l
}

// 3.1: names, and what is none.
func TestNameKnown(t *testing.T) {
	for _, s := range []string{"A", "Z", "a", "z", "S1", "s1", "Sheet", "Abc9Z", "a0", "zZ09", "AA", "A1", "x123",
		"TRUE", "abcdefghijk", "abcdefghijkl", "ABCDEFGHIJKL", "A12345678901"} {
		if !Name(s) {
			t.Errorf("3.1: Name(%q) is false", s)
		}
	}
	for _, s := range []string{"", "1", "0", "9a", "1a", "_a", "a_", "a b", " a", "a ", "a!", "!", "$a", "a$", "a-b",
		"a.b", "a\n", "a\x00", "\x00", "é", "aé", "Ä1", "a\xff", "a１", "Ａ", "abcdefghijklm", "ABCDEFGHIJKLM",
		"A123456789012", "abcdefghijk!", "abcdefghijkl ", "abcdefghijké"} {
		if Name(s) {
			t.Errorf("3.1: Name(%q) is true", s)
		}
	}
	for _, s := range long() {
		if Name(s) {
			t.Errorf("3.1: Name(%.20q..) is true", s)
		}
	}
}

// 3.1: each byte first, in between, last.
func TestNameBytes(t *testing.T) {
	for i := range 256 {
		c := string([]byte{byte(i)})
		letter := strings.Contains("ABCDEFGHIJKLMNOPQRSTUVWXYZabcdefghijklmnopqrstuvwxyz", c)
		later := letter || strings.Contains("0123456789", c)
		for _, behind := range []string{"", "a", "Z9", "00000000000"} {
			if Name(c+behind) != letter {
				t.Errorf("3.1: Name(%q): %v", c+behind, !letter)
			}
		}
		for _, s := range []string{"a" + c, "Z" + c + "9", "abcdefghijk" + c} {
			if Name(s) != later {
				t.Errorf("3.1: Name(%q): %v", s, !later)
			}
		}
	}
}

// 3.1: names of all lengths.
func TestNameLengths(t *testing.T) {
	for n := range 30 {
		for _, c := range []string{"a", "Q", "Ab"} {
			s := strings.Repeat(c, n)
			if want := 1 <= len(s) && len(s) <= api.MaxName; Name(s) != want {
				t.Errorf("3.1: Name(%q): %v", s, !want)
			}
		}
	}
}

// 3.1: columns' letters, written out, and numbers that are no column.
func TestColKnown(t *testing.T) {
	cases := []struct {
		n    int
		want string
	}{
		{0, "A"}, {1, "B"}, {24, "Y"}, {25, "Z"}, {26, "AA"}, {27, "AB"}, {51, "AZ"}, {52, "BA"}, {77, "BZ"}, {78, "CA"},
		{675, "YZ"}, {676, "ZA"}, {700, "ZY"}, {api.MaxCol, "ZZ"},
		{api.MaxCol + 1, ""}, {703, ""}, {728, ""}, {18277, ""}, {18278, ""}, {1 << 32, ""}, {1<<32 + 1, ""},
		{math.MaxInt - 1, ""}, {math.MaxInt, ""},
		{-1, ""}, {-2, ""}, {-25, ""}, {-26, ""}, {-27, ""}, {-702, ""}, {math.MinInt, ""}, {math.MinInt + 1, ""},
	}
	for _, c := range cases {
		if s := Col(c.n); s != c.want {
			t.Errorf("3.1: Col(%d): %q", c.n, s)
		}
	}
}

// 3.1: all columns one by one: of one letter, then of two, and no other text is one.
func TestAllCols(t *testing.T) {
	const capitals = "ABCDEFGHIJKLMNOPQRSTUVWXYZ"
	n := 0
	next := func(s string) {
		if Col(n) != s {
			t.Errorf("3.1: Col(%d): %q, not %q", n, Col(n), s)
		}
		if back, ok := ReadCol(s); back != n || !ok {
			t.Errorf("3.1: ReadCol(%q): %d, %v", s, back, ok)
		}
		n++
	}
	for i := range capitals {
		next(capitals[i : i+1])
	}
	for i := range capitals {
		for k := range capitals {
			next(capitals[i:i+1] + capitals[k:k+1])
		}
	}
	if n != api.MaxCol+1 {
		t.Error("3.1: columns:", n)
	}
	for i := -2000; i < 20000; i++ {
		if s := Col(i); (s != "") != (0 <= i && i < n) {
			t.Errorf("3.1: Col(%d): %q", i, s)
		}
	}
}

// 3.1: what is no column.
func TestReadColWrong(t *testing.T) {
	for _, s := range []string{"", "a", "z", "aa", "Aa", "aA", "zZ", "AAA", "AAB", "ABC", "ZZZ", "AAAA", "A1", "1A", "1",
		"0", "$A", "A$", "$AA", "AA$", "!A", "A!", "S!A", " A", "A ", "A A", "-A", "+A", "A-", "[", "@", "A[", "@A", "A@",
		"[A", "\x00", "A\x00", "A\n", "Ä", "Ａ", "A\xff", "AAAAAAAAAAAAAA", "AAAAAAAAAAAAAAA"} {
		noCol(t, s)
	}
	for _, s := range long() {
		noCol(t, s)
	}
}

// 3.1: all texts of one byte and of two, and three letters, whatever they are.
func TestReadColBytes(t *testing.T) {
	capital := func(c byte) bool { return 'A' <= c && c <= 'Z' }
	for i := range 256 {
		if s := string([]byte{byte(i)}); !capital(s[0]) {
			noCol(t, s)
		}
		for k := range 256 {
			if s := string([]byte{byte(i), byte(k)}); !capital(s[0]) || !capital(s[1]) {
				noCol(t, s)
			}
		}
	}
	for i := range 26 * 26 * 26 {
		noCol(t, string([]byte{byte('A' + i/676), byte('A' + i/26%26), byte('A' + i%26)}))
	}
}

// 3.1, 3.2: references that may be, and have a text.
func TestMay(t *testing.T) {
	for _, r := range refs() {
		if !May(r) {
			t.Errorf("3.1: May(%v) is false", r)
		}
	}
}

// 3.1, 3.2: references that may not be have no text.
func TestMayNot(t *testing.T) {
	var l []api.Ref
	for _, good := range refs() {
		for _, sheet := range []string{"1", "1a", "a!", "a b", "!", " ", "é", "abcdefghijklm", "\x00", "$A"} {
			bad := good
			bad.Sheet = sheet
			l = append(l, bad)
		}
		for _, n := range []int{-1, -2, -26, math.MinInt, api.MaxCol + 1, api.MaxCol + 2, 1 << 32, math.MaxInt} {
			bad := good
			bad.Col = n
			l = append(l, bad)
		}
		for _, n := range []int{-1, -2, -999, math.MinInt, api.MaxRow + 1, api.MaxRow + 2, 1 << 32, math.MaxInt} {
			bad := good
			bad.Row = n
			l = append(l, bad)
		}
	}
	for _, r := range l {
		if May(r) {
			t.Errorf("3.1: May(%v) is true", r)
		}
		if s := Text(r); s != "" {
			t.Errorf("3.2: Text(%v): %q", r, s)
		}
	}
}

// 3.2: texts of references, written out.
func TestTextKnown(t *testing.T) {
	cases := []struct {
		r    api.Ref
		want string
	}{
		{api.Ref{}, "A1"},
		{api.Ref{Col: 1, Row: 2}, "B3"},
		{api.Ref{AbsCol: true}, "$A1"},
		{api.Ref{AbsRow: true}, "A$1"},
		{api.Ref{AbsCol: true, AbsRow: true}, "$A$1"},
		{api.Ref{Sheet: "S1", Col: 1, Row: 2, AbsCol: true}, "S1!$B3"},
		{api.Ref{Sheet: "S1", Col: 1, Row: 2, AbsRow: true}, "S1!B$3"},
		{api.Ref{Sheet: "a", Col: 26, AbsCol: true, AbsRow: true}, "a!$AA$1"},
		{api.Ref{Sheet: "A1", Row: 9}, "A1!A10"},
		{api.Ref{Col: 25, Row: 98}, "Z99"},
		{api.Ref{Col: 26, Row: 99}, "AA100"},
		{api.Ref{Col: api.MaxCol, Row: api.MaxRow}, "ZZ999"},
		{api.Ref{Sheet: "abcdefghijkl", Col: 701, Row: 998, AbsCol: true, AbsRow: true}, "abcdefghijkl!$ZZ$999"},
	}
	for _, c := range cases {
		if s := Text(c.r); s != c.want {
			t.Errorf("3.2: Text(%v): %q, not %q", c.r, s, c.want)
		}
		if r, ok := Read(c.want); r != c.r || !ok {
			t.Errorf("3.2: Read(%q): %v, %v", c.want, r, ok)
		}
	}
}

// 3.3: Read of Text is the reference: of all columns, of all rows, of all kinds.
func TestReadOfText(t *testing.T) {
	l := refs()
	for abs := range 4 {
		for _, sheet := range []string{"", "S1", "AB12"} {
			r := api.Ref{Sheet: sheet, AbsCol: abs&1 != 0, AbsRow: abs&2 != 0}
			for i := range max(api.MaxCol, api.MaxRow) + 1 {
				r.Col, r.Row = i%(api.MaxCol+1), (i*7)%(api.MaxRow+1)
				l = append(l, r)
			}
		}
	}
	texts := map[string]api.Ref{}
	for _, r := range l {
		s := Text(r)
		if back, ok := Read(s); back != r || !ok {
			t.Errorf("3.3: Read(%q): %v, %v, not %v", s, back, ok, r)
		}
		if other, have := texts[s]; have && other != r {
			t.Errorf("3.2: %q is the text of %v and of %v", s, r, other)
		}
		texts[s] = r
		check(t, s)
	}
}

// 3.2: what is no reference.
func TestReadWrong(t *testing.T) {
	for _, s := range []string{"", "A", "AA", "1", "12", "A0", "A00", "A01", "A001", "A$0", "A$01", "$A01", "a1", "aA1",
		"Aa1", "AAA1", "AAA", "A1000", "A1001", "A9999", "ZZ1000", "AAB1", "A99999999999999999999",
		"A18446744073709551617", "A9223372036854775808", "A1.5", "A1e2", "A-1", "A+1", "-A1", "+A1", "1A", "A1A", "A1B2",
		"A1$", "$", "$$", "$1", "$A", "A$", "$A$", "$$A1", "A$$1", "$$A$$1", "$A$$1", "$$A$1", "A1$1", "A$A1", "$AA$",
		"!", "!A1", "!!A1", "S!", "S!A", "S!1", "S!!A1", "S!T!A1", "S!A1!", "A1!", "S!A1!B2", "$S!A1", "S$!A1", "S!$", "S!$$A1",
		"S!A$$1", "1!A1", "1S!A1", "S_1!A1", "S 1!A1", "é!A1", "S !A1", "S! A1", " S!A1", "abcdefghijklm!A1", "S1!a1",
		"S1!A0", "S1!A1000", "S1!AAA1", " A1", "A1 ", "A 1", "A1\n", "\nA1", "A1\x00", "\x00A1", "A1\xff", "Ä1", "A１", "Ａ1",
		"#REF!", "#REF!A1", "A1:B2", "A1,B2", "=A1", "(A1)", "\"A1\"", "'S'!A1", "S.A1"} {
		noRef(t, s)
	}
	for _, s := range long() {
		for _, text := range []string{s, s + "!A1", s + "A1", s + "1", "A" + s, "A1" + s, "$" + s, "A$" + s, "S!" + s,
			"S!A" + s, "S" + s + "!A1"} {
			noRef(t, text)
			check(t, text)
		}
	}
}

// 3.2, 3.3: all short texts of the bytes that say something in a reference, and of some beside them.
func TestAllShort(t *testing.T) {
	const some = "AZa019$! "
	texts := []string{""}
	for i := 0; i < len(texts); i++ {
		check(t, texts[i])
		if len(texts[i]) == 5 {
			continue
		}
		for k := range some {
			texts = append(texts, texts[i]+some[k:k+1])
		}
	}
}

// 3.2: rows of all numbers of up to four digits, with noughts ahead too.
func TestAllRows(t *testing.T) {
	for n := range 10001 {
		for _, form := range []string{"%d", "%02d", "%03d", "%04d"} {
			digits := fmt.Sprintf(form, n)
			check(t, "A"+digits)
			check(t, "S1!$ZZ$"+digits)
		}
	}
}

// 3.2, 3.3: texts of references, cut, with a byte more, with a byte of another kind.
func TestChanged(t *testing.T) {
	const other = "AZ[@az`{09/:$#!\" _-.\x00\n\x7f\x80\xc3\xff"
	for _, s := range []string{"A1", "$B$2", "ZZ999", "S1!$B3", "a!AA$10", "abcdefghijkl!$ZZ$999"} {
		for i := range len(s) + 1 {
			check(t, s[:i])
			check(t, s[i:])
			for k := range other {
				check(t, s[:i]+other[k:k+1]+s[i:])
			}
			if i == len(s) {
				continue
			}
			check(t, s[:i]+s[i+1:])
			for k := range 256 {
				check(t, s[:i]+string([]byte{byte(k)})+s[i+1:])
			}
		}
	}
}
