package lex

import (
	"math"
	"math/big"
	"regexp"
	"slices"
	"strings"
	"testing"

	"chequer/api"
)

// form is that of one token with blanks ahead: a number, a text, a dead reference, a word, a sign.
var form = regexp.MustCompile(`^ *(?:([0-9]+)|("(?:[^"]|"")*")|(#REF!)|([A-Za-z$][A-Za-z0-9$!]*)|(<>|<=|>=|[-+*/&=<>(),:]))`)

// refForm is that of a reference: a sheet and its mark, a mark, a column, a mark, a row.
var refForm = regexp.MustCompile(`^(?:([A-Za-z][A-Za-z0-9]{0,11})!)?(\$?)([A-Z]{1,2})(\$?)([1-9][0-9]{0,2})$`)

var nameForm = regexp.MustCompile(`^[A-Z][A-Z0-9]{0,11}$`)

// theirNumber reads a number by its digits; of what is none or too great false.
func theirNumber(s string) (int, bool) {
	n, ok := new(big.Int).SetString(s, 10)
	if !ok || n.String() != s || !n.IsInt64() {
		return 0, false
	}
	return int(n.Int64()), true
}

// theirWord reads a word by the forms of references and names.
func theirWord(s string) (api.Token, bool) {
	m := refForm.FindStringSubmatch(s)
	if m == nil {
		return api.Token{Kind: api.TokName, Text: s}, nameForm.MatchString(s)
	}
	col := 0
	for _, c := range m[3] {
		col = col*26 + strings.IndexRune("ABCDEFGHIJKLMNOPQRSTUVWXYZ", c) + 1
	}
	row, _ := theirNumber(m[5])
	r := api.Ref{Sheet: m[1], Col: col - 1, Row: row - 1, AbsCol: m[2] != "", AbsRow: m[4] != ""}
	return api.Token{Kind: api.TokRef, Ref: r}, true
}

// theirText reads a text with its signs.
func theirText(s string) (api.Token, bool) {
	s = strings.ReplaceAll(s[1:len(s)-1], `""`, `"`)
	for i := range len(s) {
		if s[i] < 32 {
			return api.Token{}, false
		}
	}
	return api.Token{Kind: api.TokText, Text: s}, true
}

// theirToken makes a token of what its form found.
func theirToken(m []string) (api.Token, bool) {
	switch {
	case m[1] != "":
		n, ok := theirNumber(m[1])
		return api.Token{Kind: api.TokNum, Num: n}, ok
	case m[2] != "":
		return theirText(m[2])
	case m[3] != "":
		return api.Token{Kind: api.TokDead}, true
	case m[4] != "":
		return theirWord(m[4])
	}
	return api.Token{Kind: api.TokSign, Text: m[5]}, true
}

// theirs reads a formula by the forms of its tokens.
func theirs(s string) ([]api.Token, api.Errno) {
	if len(s) > api.MaxCell {
		return nil, api.ErrLarge
	}
	var l []api.Token
	at := 0
	for strings.Trim(s[at:], " ") != "" {
		m := form.FindStringSubmatch(s[at:])
		if m == nil {
			return nil, api.ErrForm
		}
		t, ok := theirToken(m)
		if !ok {
			return nil, api.ErrForm
		}
		t.At = at + len(m[0]) - len(strings.TrimLeft(m[0], " "))
		at += len(m[0])
		l = append(l, t)
	}
	return append(l, api.Token{At: len(s)}), api.OK
}

// check holds what Lex tells of s against the forms.
func check(t *testing.T, s string) {
	t.Helper()
	l, e := Lex(s)
	if l2, e2 := theirs(s); e != e2 || !slices.Equal(l, l2) {
		t.Fatalf("4.1: Lex(%q): %v, %d, not %v, %d", s, l, e, l2, e2)
	}
	if e != api.OK && l != nil {
		t.Fatalf("R4: Lex(%q): %v", s, l)
	}
}

// expect holds the tokens of s against some that are written out, all but the last one, which is at the text's end.
func expect(t *testing.T, s string, want ...api.Token) {
	t.Helper()
	want = append(slices.Clone(want), api.Token{Kind: api.TokEnd, At: len(s)})
	if l, e := Lex(s); e != api.OK || !slices.Equal(l, want) {
		t.Errorf("4.1: Lex(%q): %v, %d, not %v", s, l, e, want)
	}
	check(t, s)
}

// wrong expects that s has no tokens, by an error.
func wrong(t *testing.T, s string, want api.Errno) {
	t.Helper()
	if l, e := Lex(s); e != want || len(l) != 0 {
		t.Errorf("4.1: Lex(%q): %v, %d, not %d", s, l, e, want)
	}
	check(t, s)
}

func num(at, n int) api.Token {
	return api.Token{Kind: api.TokNum, Num: n, At: at}
}

func text(at int, s string) api.Token {
	return api.Token{Kind: api.TokText, Text: s, At: at}
}

func name(at int, s string) api.Token {
	return api.Token{Kind: api.TokName, Text: s, At: at}
}

func sign(at int, s string) api.Token {
	return api.Token{Kind: api.TokSign, Text: s, At: at}
}

func ref(at int, r api.Ref) api.Token {
	return api.Token{Kind: api.TokRef, Ref: r, At: at}
}

func deadRef(at int) api.Token {
	return api.Token{Kind: api.TokDead, At: at}
}

// allSigns are the signs as the document tells them.
func allSigns() []string {
	return strings.Split("+ - * / & = <> < <= > >= ( ) , :", " ")
}

// alone are texts of one token each, at place 0.
func alone() map[string]api.Token {
	m := map[string]api.Token{
		"0": num(0, 0), "1": num(0, 1), "10": num(0, 10), "100": num(0, 100), "9007199254740993": num(0, 9007199254740993),
		"9223372036854775807": num(0, math.MaxInt64),
		`""`:                  text(0, ""), `"a"`: text(0, "a"), `"a""b"`: text(0, `a"b`), `""""`: text(0, `"`), `"""a"""`: text(0, `"a"`),
		`"  "`: text(0, "  "), "\"é\xff\x7f\"": text(0, "é\xff\x7f"), `"#REF!"`: text(0, "#REF!"),
		"A": name(0, "A"), "SUM": name(0, "SUM"), "TRUE": name(0, "TRUE"), "A0": name(0, "A0"), "A1B2": name(0, "A1B2"),
		"A1": ref(0, api.Ref{}), "$B3": ref(0, api.Ref{Col: 1, Row: 2, AbsCol: true}), "ZZ999": ref(0, api.Ref{Col: 701, Row: 998}),
		"B$3":      ref(0, api.Ref{Col: 1, Row: 2, AbsRow: true}),
		"s1!$C$20": ref(0, api.Ref{Sheet: "s1", Col: 2, Row: 19, AbsCol: true, AbsRow: true}),
		"#REF!":    deadRef(0),
	}
	for _, s := range allSigns() {
		m[s] = sign(0, s)
	}
	return m
}

// 4.1: numbers, their edges, and what ends them.
func TestNumbers(t *testing.T) {
	for _, c := range []struct {
		s string
		n int
	}{{"0", 0}, {"1", 1}, {"9", 9}, {"10", 10}, {"100", 100}, {"1002003", 1002003}, {"4294967296", 1 << 32},
		{"9223372036854775806", math.MaxInt64 - 1}, {"9223372036854775807", math.MaxInt64}} {
		expect(t, c.s, num(0, c.n))
		expect(t, " "+c.s+" ", num(1, c.n))
		expect(t, "-"+c.s, sign(0, "-"), num(1, c.n))
		expect(t, c.s+"A1", num(0, c.n), ref(len(c.s), api.Ref{}))
		expect(t, c.s+`"1"`, num(0, c.n), text(len(c.s), "1"))
		expect(t, c.s+" 1", num(0, c.n), num(len(c.s)+1, 1))
		wrong(t, "0"+c.s, api.ErrForm)
	}
	for _, s := range []string{"00", "01", "007", "000", "00A", "1+02", "9223372036854775808", "9223372036854775810",
		"9999999999999999999", "18446744073709551615", "18446744073709551616", "18446744073709551617",
		"36893488147419103233", "1" + strings.Repeat("0", 40), strings.Repeat("9", 300), strings.Repeat("0", 300),
		"09223372036854775807", "1.5", "1_000", "1e", "0x10", "1a", "1'", "12."} {
		wrong(t, s, api.ErrForm)
	}
}

// 4.1: texts, doubled signs in them, and texts that do not end.
func TestTexts(t *testing.T) {
	for _, c := range []struct{ s, want string }{{`""`, ""}, {`"a"`, "a"}, {`" "`, " "}, {`"A1+1"`, "A1+1"},
		{`""""`, `"`}, {`""""""`, `""`}, {`"""a"`, `"a`}, {`"a"""`, `a"`}, {`"a""b""""c"`, `a"b""c`}, {`"1,2"`, "1,2"},
		{"\"\x20\x7f\x80\xff\"", "\x20\x7f\x80\xff"}, {`"äöü€"`, "äöü€"}, {`"#"`, "#"}, {`"'\"`, `'\`},
		{`"` + strings.Repeat("x", api.MaxCell-2) + `"`, strings.Repeat("x", api.MaxCell-2)},
		{strings.Repeat(`"`, api.MaxCell), strings.Repeat(`"`, api.MaxCell/2-1)}} {
		expect(t, c.s, text(0, c.want))
	}
	expect(t, `"a" "b"`, text(0, "a"), text(4, "b"))
	expect(t, `"a"B1""`, text(0, "a"), ref(3, api.Ref{Col: 1}), text(5, ""))
	expect(t, ` "a"" "&"b" `, text(1, `a" `), sign(7, "&"), text(8, "b"))
	expect(t, `"" ""`, text(0, ""), text(3, ""))
	for _, s := range []string{`"`, `"a`, `"""`, `"a""`, `"""""`, `"a" "`, `"a"" "b`, `1"`, `A1"`, `"a"b`, `'a'`, "“a”",
		strings.Repeat(`"`, api.MaxCell-1), `"` + strings.Repeat("x", api.MaxCell-1)} {
		wrong(t, s, api.ErrForm)
	}
}

// 4.1: each byte within a text: from 32 on it may stand there, but for a sign alone.
func TestTextBytes(t *testing.T) {
	for i := range 256 {
		c := string([]byte{byte(i)})
		for _, around := range []string{"", "a", "é", `""`} {
			inside := strings.ReplaceAll(around, `""`, `"`)
			switch s := `"` + around + c + around + `"`; {
			case i < 32:
				wrong(t, s, api.ErrForm)
			case c == `"`:
				check(t, s)
			default:
				expect(t, s, text(0, inside+c+inside))
			}
		}
	}
}

// 4.1: names, up to the longest, and words that are none.
func TestNames(t *testing.T) {
	for _, s := range []string{"A", "Z", "AA", "ZZZ", "SUM", "TRUE", "FALSE", "IF", "A0", "A00", "A01", "AAA1", "ABC1",
		"A1000", "ZZ1000", "A1A", "A1B2", "R2D2", "Z9Y8X7", "A99999999999", "ABCDEFGHIJK", "ABCDEFGHIJKL"} {
		expect(t, s, name(0, s))
		expect(t, s+"(", name(0, s), sign(len(s), "("))
		expect(t, " "+s+" "+s+" ", name(1, s), name(len(s)+2, s))
		wrong(t, s+"!", api.ErrForm)
		wrong(t, "$"+s+"$", api.ErrForm)
		wrong(t, s+"a", api.ErrForm)
		wrong(t, s+"é", api.ErrForm)
	}
	for _, s := range []string{"a", "z", "sum", "Sum", "sUM", "SUm", "true", "ABc", "ABCDEFGHIJKLM", "A123456789012",
		"ABCDEFGHIJKl", "A_B", "_A", "A.B", "SUM$", "$SUM", "S$UM", "$", "$$", "A$", "A$B", strings.Repeat("A", 300)} {
		wrong(t, s, api.ErrForm)
	}
	for n := 1; n <= 30; n++ {
		s := strings.Repeat("Q", n)
		if n <= api.MaxName {
			expect(t, s, name(0, s))
		} else {
			wrong(t, s, api.ErrForm)
		}
	}
}

// 4.1: references, with and without a sheet, with and without marks, and words that layer 3 does not read.
func TestRefs(t *testing.T) {
	for _, c := range []struct {
		s string
		r api.Ref
	}{{"A1", api.Ref{}}, {"B3", api.Ref{Col: 1, Row: 2}}, {"$A1", api.Ref{AbsCol: true}}, {"A$1", api.Ref{AbsRow: true}},
		{"$A$1", api.Ref{AbsCol: true, AbsRow: true}}, {"AA10", api.Ref{Col: 26, Row: 9}}, {"ZZ999", api.Ref{Col: 701, Row: 998}},
		{"S1!$B3", api.Ref{Sheet: "S1", Col: 1, Row: 2, AbsCol: true}}, {"a!A1", api.Ref{Sheet: "a"}},
		{"SUM!B2", api.Ref{Sheet: "SUM", Col: 1, Row: 1}}, {"A1!A10", api.Ref{Sheet: "A1", Row: 9}},
		{"abcdefghijkl!$ZZ$999", api.Ref{Sheet: "abcdefghijkl", Col: 701, Row: 998, AbsCol: true, AbsRow: true}}} {
		n := len(c.s)
		expect(t, c.s, ref(0, c.r))
		expect(t, "  "+c.s+" ", ref(2, c.r))
		expect(t, c.s+":"+c.s, ref(0, c.r), sign(n, ":"), ref(n+1, c.r))
		expect(t, c.s+" "+c.s, ref(0, c.r), ref(n+1, c.r))
		expect(t, "2"+c.s+`"x"`, num(0, 2), ref(1, c.r), text(n+1, "x"))
		wrong(t, c.s+"!", api.ErrForm)
		wrong(t, c.s+"$", api.ErrForm)
		wrong(t, c.s+"a", api.ErrForm)
		wrong(t, "$$"+c.s, api.ErrForm)
		wrong(t, "1!"+c.s, api.ErrForm)
	}
	for _, s := range []string{"a1", "aA1", "Aa1", "$a1", "A$0", "A$01", "$A0", "$A1000", "$AAA1", "$1", "$A$", "A$$1",
		"A1$1", "$$A1", "!A1", "S!", "S1!A", "S1!A0", "S1!a1", "S1!A1000", "S1!AAA1", "S!!A1", "S!T!A1", "S1 !A1", "S1! A1",
		"$S!A1", "abcdefghijklm!A1", "S1!#REF!", "S_1!A1", "'S1'!A1", "é!A1"} {
		wrong(t, s, api.ErrForm)
	}
	expect(t, "$A5 1", ref(0, api.Ref{Row: 4, AbsCol: true}), num(4, 1))
	expect(t, "A 1", name(0, "A"), num(2, 1))
	wrong(t, "$ A1", api.ErrForm)
	wrong(t, "A$ 1", api.ErrForm)
}

// 4.1: a reference to what is gone, and # with anything else behind it.
func TestDead(t *testing.T) {
	expect(t, "#REF!", deadRef(0))
	expect(t, "  #REF! ", deadRef(2))
	expect(t, "#REF!#REF!", deadRef(0), deadRef(5))
	expect(t, "#REF!A1", deadRef(0), ref(5, api.Ref{}))
	expect(t, "#REF!7", deadRef(0), num(5, 7))
	expect(t, "7#REF!", num(0, 7), deadRef(1))
	expect(t, "A1#REF!", ref(0, api.Ref{}), deadRef(2))
	expect(t, "REF#REF!", name(0, "REF"), deadRef(3))
	expect(t, "-#REF!:B1", sign(0, "-"), deadRef(1), sign(6, ":"), ref(7, api.Ref{Col: 1}))
	for _, s := range []string{"#", "##", "#R", "#RE", "#REF", "#REF ", "#REF !", "# REF!", "#ref!", "#Ref!", "#REF#", "#REF?",
		"#REG!", "#REF1", "##REF!", "#REF!!", "#REF!$", "#REF!a", "#REFA1!", "REF!", "#N/A", "#DIV!", "#A1", "#1", `#"a"`, "A1#", "1#"} {
		wrong(t, s, api.ErrForm)
	}
}

// 4.1: every sign alone, and every two of them, beside one another and with a blank between.
func TestSigns(t *testing.T) {
	known := allSigns()
	for _, a := range known {
		expect(t, a, sign(0, a))
		expect(t, "1"+a+"2", num(0, 1), sign(1, a), num(1+len(a), 2))
		for _, b := range known {
			expect(t, a+" "+b, sign(0, a), sign(len(a)+1, b))
			if slices.Contains(known, a+b) {
				expect(t, a+b, sign(0, a+b))
			} else {
				check(t, a+b)
			}
			for _, c := range known {
				check(t, a+b+c)
			}
		}
	}
	expect(t, "<>=<=>=><", sign(0, "<>"), sign(2, "="), sign(3, "<="), sign(5, ">="), sign(7, ">"), sign(8, "<"))
	expect(t, "<<>>==>", sign(0, "<"), sign(1, "<>"), sign(3, ">="), sign(5, "="), sign(6, ">"))
	expect(t, "< > < = > =", sign(0, "<"), sign(2, ">"), sign(4, "<"), sign(6, "="), sign(8, ">"), sign(10, "="))
	expect(t, "==", sign(0, "="), sign(1, "="))
	expect(t, "--1", sign(0, "-"), sign(1, "-"), num(2, 1))
}

// 4.1: each byte, alone and beside other tokens: what begins nothing is an error wherever it stands.
func TestBytes(t *testing.T) {
	for i := range 256 {
		c := string([]byte{byte(i)})
		if !strings.Contains(` +-*/&=<>(),:0123456789ABCDEFGHIJKLMNOPQRSTUVWXYZ`, c) {
			for _, s := range []string{c, " " + c, c + " ", "1 " + c, "A1 " + c, "+" + c + "+"} {
				wrong(t, s, api.ErrForm)
			}
		}
		for _, a := range []string{"", "1", "A1", "S1!", "$", "SUM", "#", "#REF!", "#REF", `""`, `"`, "<", ">", " "} {
			for _, b := range []string{"", "1", "A1", "!A1", "$", "=", `"`, " "} {
				check(t, a+c+b)
			}
		}
	}
	for _, s := range []string{"\t", "\n", "\r", "\v", "\f", "\x00", "\u0085", "\u00a0", "\u2003", "\ufeff", "1\t2", "1\n", "\r\n1",
		"A1\u00a0", "é", "Ä1", "１", "Ａ1", "Σ", "≤", "−1", "\xc3", "\x80", ";", ".", "!", "%", "^", "_", "{", "}", "[", "]", "|",
		"~", "?", "@", "`", "'", `\`} {
		wrong(t, s, api.ErrForm)
	}
}

// 4.1: a text of MaxCell bytes, and of one more, whatever else is wrong with it.
func TestLarge(t *testing.T) {
	for _, s := range []string{" ", "1+", "+", "(", `"a"`, "A1 ", "#REF!", "<>", "ZZ999+"} {
		long := strings.Repeat(s, api.MaxCell/len(s)+1)
		check(t, long[:api.MaxCell-1])
		check(t, long[:api.MaxCell])
		wrong(t, long[:api.MaxCell+1], api.ErrLarge)
		wrong(t, strings.Repeat(s, 1<<16), api.ErrLarge)
	}
	expect(t, strings.Repeat(" ", api.MaxCell))
	wrong(t, strings.Repeat(" ", api.MaxCell+1), api.ErrLarge)
	expect(t, strings.Repeat(" ", api.MaxCell-2)+"A1", ref(api.MaxCell-2, api.Ref{}))
	wrong(t, strings.Repeat(" ", api.MaxCell-1)+"A1", api.ErrLarge)
	wrong(t, strings.Repeat("?", api.MaxCell), api.ErrForm)
	wrong(t, strings.Repeat("?", api.MaxCell+1), api.ErrLarge)
	wrong(t, strings.Repeat("\xff", api.MaxCell+1), api.ErrLarge)
	wrong(t, `"`+strings.Repeat("é", api.MaxCell/2), api.ErrLarge)
	if l, e := Lex(strings.Repeat("(", api.MaxCell)); e != api.OK || len(l) != api.MaxCell+1 || l[api.MaxCell-1] != sign(api.MaxCell-1, "(") {
		t.Error("4.1: as many tokens as may be:", len(l), e)
	}
}

// 4.1: the end, at the text's length, behind blanks too.
func TestEnd(t *testing.T) {
	expect(t, "")
	for n := range 20 {
		expect(t, strings.Repeat(" ", n))
		expect(t, "1"+strings.Repeat(" ", n), num(0, 1))
		expect(t, strings.Repeat(" ", n)+`"é"`, text(n, "é"))
	}
}

// 4.1: whole formulas, written out.
func TestFormulas(t *testing.T) {
	expect(t, "A1+1", ref(0, api.Ref{}), sign(2, "+"), num(3, 1))
	expect(t, "SUM(S1!$B$3:C4, TRUE)", name(0, "SUM"), sign(3, "("),
		ref(4, api.Ref{Sheet: "S1", Col: 1, Row: 2, AbsCol: true, AbsRow: true}), sign(11, ":"), ref(12, api.Ref{Col: 2, Row: 3}),
		sign(14, ","), name(16, "TRUE"), sign(20, ")"))
	expect(t, `IF(A1<>"",-B2*2,#REF!)`, name(0, "IF"), sign(2, "("), ref(3, api.Ref{}), sign(5, "<>"), text(7, ""), sign(9, ","),
		sign(10, "-"), ref(11, api.Ref{Col: 1, Row: 1}), sign(13, "*"), num(14, 2), sign(15, ","), deadRef(16), sign(21, ")"))
	for s, want := range alone() {
		expect(t, s, want)
	}
}

// 4.2: blanks ahead, between and behind change nothing but places; every two tokens of all kinds.
func TestBlanks(t *testing.T) {
	m := alone()
	for a, first := range m {
		for b, second := range m {
			for n := 1; n < 4; n++ {
				first, second := first, second
				first.At, second.At = n-1, n-1+len(a)+n
				expect(t, strings.Repeat(" ", n-1)+a+strings.Repeat(" ", n)+b+strings.Repeat(" ", 3-n), first, second)
			}
			check(t, a+b)
			check(t, a+b+a)
		}
	}
}

// places are those of tokens; the tokens are told without them.
func places(l []api.Token) (at []int, rest []api.Token) {
	for _, t := range l {
		at = append(at, t.At)
		t.At = 0
		rest = append(rest, t)
	}
	return at, rest
}

// 4.2: blanks put in at a token's beginning move it and all behind it, and change nothing else.
func TestBlanksPutIn(t *testing.T) {
	for _, s := range []string{"", "A1+1", "SUM(S1!$B$3:C4,TRUE)", `"a""b"&"  "&""`, "#REF!<>-12", "1A", "A1<=B2", `1"x"2`, "( )"} {
		l, _ := Lex(s)
		at, rest := places(l)
		for i := range l {
			for n := range 5 {
				more, e := Lex(s[:at[i]] + strings.Repeat(" ", n) + s[at[i]:])
				at2, rest2 := places(more)
				if e != api.OK || !slices.Equal(rest, rest2) {
					t.Errorf("4.2: %q, %d blanks at %d: %v, %d", s, n, at[i], more, e)
					continue
				}
				for k := range at2 {
					if k < i && at2[k] != at[k] || k >= i && at2[k] != at[k]+n {
						t.Errorf("4.2: %q, %d blanks at %d: %v", s, n, at[i], at2)
					}
				}
			}
		}
	}
}

// 4.1: all short texts of the bytes that say something, and of some beside them.
func TestAllShort(t *testing.T) {
	all := func(some string, most int) {
		texts := []string{""}
		for i := 0; i < len(texts); i++ {
			check(t, texts[i])
			if len(texts[i]) < most {
				for k := range len(some) {
					texts = append(texts, texts[i]+some[k:k+1])
				}
			}
		}
	}
	all("Aa10$!\"# <=>+(\x1f", 4)
	all("A1$!", 7)
	all("\" a", 9)
	all("<>= ", 7)
}

// 4.1: all rows of a few pieces, laid beside one another.
func TestPieces(t *testing.T) {
	pieces := []string{"A1", "$B$2", "S1!C3", "SUM", "sum", "0", "12", "9223372036854775807", `""`, `"`, `"a"`, "#REF!", "#REF", "!",
		"$", " ", "  ", "<", ">", "=", "(", ",", "\x1f", "\xff"}
	for _, a := range pieces {
		for _, b := range pieces {
			for _, c := range pieces {
				check(t, a+b+c)
				check(t, a+b+" "+c+a)
			}
		}
	}
}

// 4.1: formulas, cut, with a byte more, with a byte of another kind.
func TestChanged(t *testing.T) {
	for _, s := range []string{`IF(A1<>"a""b",-B2*2,#REF!)`, "SUM(S1!$B$3:ZZ999, TRUE)>=9223372036854775807", `ABCDEFGHIJKL(abcdefghijkl!A1)&" "`} {
		for i := range len(s) + 1 {
			check(t, s[:i])
			check(t, s[i:])
			for k := range 256 {
				c := string([]byte{byte(k)})
				check(t, s[:i]+c+s[i:])
				if i < len(s) {
					check(t, s[:i]+c+s[i+1:])
				}
			}
		}
	}
}

// R3, R5: what is told is new memory each time, spare room too.
func TestNewMemory(t *testing.T) {
	const s = `SUM(A1,"a""b")`
	first, _ := Lex(s)
	want := slices.Clone(first)
	second, _ := Lex(s)
	for i := range second {
		second[i] = api.Token{Kind: -1}
	}
	more := second[:cap(second)]
	for i := range more {
		more[i] = api.Token{Kind: -2}
	}
	third, e := Lex(s)
	if e != api.OK || !slices.Equal(first, want) || !slices.Equal(third, want) {
		t.Error("R3:", first, third)
	}
}
