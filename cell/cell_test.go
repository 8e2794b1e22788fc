package cell

import (
	"math"
	"strconv"
	"strings"
	"testing"

	"chequer/api"
	"chequer/parse"
)

const (
	least       = "-9223372036854775808"
	greatest    = "9223372036854775807"
	beyondLeast = "-9223372036854775809"
	beyond      = "9223372036854775808"
)

func x(n int) string {
	return strings.Repeat("x", n)
}

func noughts(n int) string {
	return strings.Repeat("0", n)
}

// expect holds what Norm tells of a text against what is written out.
func expect(t *testing.T, s, want string, e api.Errno) {
	t.Helper()
	if got, err := Norm(s); got != want || err != e {
		t.Errorf("9.1: Norm of %q: %q, %d, not %q, %d", s, got, err, want, e)
	}
	check(t, s)
}

// keeps expects that s is kept as it is.
func keeps(t *testing.T, s string) {
	t.Helper()
	expect(t, s, s, api.OK)
	if !May(s) {
		t.Errorf("9.1: May of %q: false", s)
	}
}

// turns expects that s is kept as another text, and may not be kept itself.
func turns(t *testing.T, s, want string) {
	t.Helper()
	expect(t, s, want, api.OK)
	if May(s) {
		t.Errorf("9.1: May of %q: true", s)
	}
	no(t, s)
}

// refuses expects an error of Norm.
func refuses(t *testing.T, s string, e api.Errno) {
	t.Helper()
	expect(t, s, "", e)
}

// no expects that s is no formula that may be, and has no value of its own.
func no(t *testing.T, s string) {
	t.Helper()
	if l, ok := Formula(s); l != nil || ok {
		t.Errorf("9.1: Formula of %q: %v, %v", s, l, ok)
	}
	hasValue(t, s, api.Val{Kind: api.VErr, N: api.EValue})
}

func hasValue(t *testing.T, s string, want api.Val) {
	t.Helper()
	if v := Plain(s); v != want {
		t.Errorf("9.1: Plain of %q: %v, not %v", s, v, want)
	}
}

func TestEmpty(t *testing.T) {
	keeps(t, "")
	hasValue(t, "", api.Val{Kind: api.VNone})
	if l, ok := Formula(""); l != nil || ok {
		t.Errorf("9.1: Formula of nothing: %v, %v", l, ok)
	}
}

// 9.1: texts with a ' ahead stay, whatever stands behind it.
func TestMarkedTexts(t *testing.T) {
	for _, s := range []string{"", "a", "hello", "5", "-5", "007", "=1", "= 1 + 2", "=1+", "'", "''", " ", "a b ", "\x00", "\n", "\xff\xfe", "é", "TRUE", "#REF!"} {
		keeps(t, "'"+s)
		hasValue(t, "'"+s, api.Val{Kind: api.VText, S: s})
		if l, ok := Formula("'" + s); l != nil || ok {
			t.Errorf("9.1: Formula of %q: %v, %v", "'"+s, l, ok)
		}
	}
}

// 9.1: texts of no kind get a ' ahead.
func TestBareTexts(t *testing.T) {
	for _, s := range []string{"a", "hello", "Hello world", "TRUE", "A1", "#REF!", "1+2", "a=1", "x'", `"5"`, "(5)", "$5", "5'", " ", " '", " =1", "  = 1", "\t5", "\x00", "\n", "5\n", "\xff", "\xff\x00", "é", "日本", "٣", "５", "−5", "\u00a05", "\ufeff5"} {
		turns(t, s, "'"+s)
	}
}

// 9.1: of each byte, alone, ahead of a digit and behind one.
func TestEveryByte(t *testing.T) {
	for i := range 256 {
		c := string([]byte{byte(i)})
		digit := i >= '0' && i <= '9'
		switch {
		case digit || c == "'":
			keeps(t, c)
		case c == "=":
			refuses(t, c, api.ErrForm)
		default:
			turns(t, c, "'"+c)
		}
		if !digit && c != "'" && c != "=" && c != "-" {
			turns(t, c+"5", "'"+c+"5")
		}
		if !digit {
			turns(t, "5"+c, "'5"+c)
			turns(t, "-5"+c, "'-5"+c)
			turns(t, "-"+c+"5", "'-"+c+"5")
		}
		check(t, "="+c)
		check(t, `="`+c+`"`)
	}
}

// 9.1: whole numbers as they are kept.
func TestNumbers(t *testing.T) {
	for _, n := range []int{0, 1, 5, 9, 10, 42, 100, 1000, 1 << 31, 1 << 32, math.MaxInt - 1, math.MaxInt, -1, -5, -10, -1 << 31, math.MinInt + 1, math.MinInt} {
		s := strconv.Itoa(n)
		keeps(t, s)
		hasValue(t, s, api.Val{Kind: api.VInt, N: n})
		if l, ok := Formula(s); l != nil || ok {
			t.Errorf("9.1: Formula of %q: %v, %v", s, l, ok)
		}
	}
	for n := -2000; n < 2000; n++ {
		keeps(t, strconv.Itoa(n))
		hasValue(t, strconv.Itoa(n), api.Val{Kind: api.VInt, N: n})
	}
	keeps(t, least)
	keeps(t, greatest)
}

// 9.1: noughts ahead, and a - ahead of 0, are not kept.
func TestNoughts(t *testing.T) {
	for s, want := range map[string]string{"00": "0", "000": "0", "-0": "0", "-00": "0", "-000": "0", "007": "7", "01": "1", "0010": "10", "-01": "-1", "-007": "-7", "-0010": "-10",
		"0" + greatest: greatest, "00" + greatest: greatest, "-0" + least[1:]: least, "-000" + least[1:]: least} {
		turns(t, s, want)
	}
	for n := 1; n < 70; n++ {
		turns(t, noughts(n)+"5", "5")
		turns(t, "-"+noughts(n)+"50", "-50")
		turns(t, noughts(n)+"0", "0")
		turns(t, "-"+noughts(n), "0")
		turns(t, noughts(n)+greatest, greatest)
		turns(t, "-"+noughts(n)+least[1:], least)
		turns(t, noughts(n)+beyond, "'"+noughts(n)+beyond)
		turns(t, "-"+noughts(n)+beyond+"0", "'-"+noughts(n)+beyond+"0")
	}
}

// 9.1: what is beyond 64 bits is a text.
func TestBeyond(t *testing.T) {
	for _, s := range []string{beyond, beyondLeast, "9223372036854775817", "-9223372036854775818", "9999999999999999999", "-9999999999999999999", "10000000000000000000", "18446744073709551615", "18446744073709551616",
		"18446744073709551621", "-18446744073709551621", "99999999999999999999", "0" + beyond, "-0" + beyondLeast[1:], "1" + noughts(60), "-1" + noughts(60)} {
		turns(t, s, "'"+s)
	}
}

// 9.1: what is nearly a number is a text.
func TestNearlyNumbers(t *testing.T) {
	for _, s := range []string{"-", "--", "--5", "---", "+", "+5", "+0", "+-5", "-+5", "5-", "5+", "-5-", "5 ", " 5", " -5", "- 5", "-5 ", "- ", " -", " +5", "1 2", "1.5", "-1.5", ".5", "5.", "1e5", "1E5", "0x10", "0b1", "0o7", "1_000", "-1_0", "_1", "1,000",
		"-a", "5a", "a5", "-'5", "5=5", "-=5", "Inf", "NaN", "5\x00", "-\x00", "5\xff"} {
		turns(t, s, "'"+s)
	}
}

// 9.1: formulas without blanks, without brackets that need not stand.
func TestFormulas(t *testing.T) {
	for s, want := range map[string]string{"= 1 + 2": "=1+2", "=(1+(2))": "=1+2", "= 1": "=1", "=1 ": "=1", "=(1)": "=1", "=((((A1))))": "=A1", "=(1+2)+3": "=1+2+3", "=1*(2*3)+(4)": "=1*(2*3)+4", "= - 1": "=-1", "=-(1)": "=-1", "=-(-1)": "=--1",
		"=SUM( A1 : B2 , (3) )": "=SUM(A1:B2,3)", "= F ( )": "=F()", "=( S1!$A$1 )": "=S1!$A$1", "= \"a  b\"": "=\"a  b\"", "=(TRUE)": "=TRUE", "=( #REF! )": "=#REF!", "=(1<2)=(3<4)": "=1<2=(3<4)", "= s1!A1": "=s1!A1", "=( \" a\"\"b \" & \"x\" )": "=\" a\"\"b \"&\"x\""} {
		turns(t, s, want)
	}
	for _, s := range []string{"=1", "=1+2", "=(1+2)*3", "=1+(2+3)", "=-1", "=--1", "=-(1+2)", "=1--2", "=A1", "=ZZ999", "=$A$1:B2", "=s1!A1", "=Sheet!A1:B2", "=\"\"", "=\"abc\"", "=\"a\"\"b\"", "=\" \"", "=\"=1\"", "=\"'a'\"", "=TRUE", "=FALSE",
		"=#REF!", "=F()", "=SUM(A1:B2,3)", "=NOSUCH(1)", "=IF(A1>0,\"x\",-1)", "=\"\xff\xc3\"", "=0", "=" + greatest, "=1=1", "=1<>2", "=1&2"} {
		keeps(t, s)
		hasValue(t, s, api.Val{Kind: api.VErr, N: api.EValue})
		hasNodes(t, s)
	}
}

// hasNodes expects that Formula tells what layer 5 makes of what stands behind the =.
func hasNodes(t *testing.T, s string) {
	t.Helper()
	want, e := parse.Parse(s[1:])
	if l, ok := Formula(s); !ok || e != api.OK || !same(l, want) || len(l) == 0 {
		t.Errorf("9.1: Formula of %q: %v, %v", s, l, ok)
	}
}

// 9.1: Formula's nodes, written out.
func TestNodes(t *testing.T) {
	for s, want := range map[string][]api.Node{
		"=7":        {{Kind: api.NNum, Num: 7}},
		"=1+2":      {{Kind: api.NNum, Num: 1}, {Kind: api.NNum, Num: 2}, {Kind: api.NAdd, Kids: []int{0, 1}}},
		"=-A1":      {{Kind: api.NRef}, {Kind: api.NNeg, Kids: []int{0}}},
		"=F(\"'\")": {{Kind: api.NText, Text: "'"}, {Kind: api.NCall, Text: "F", Kids: []int{0}}},
	} {
		if l, ok := Formula(s); !ok || !same(l, want) {
			t.Errorf("9.1: Formula of %q: %v, %v", s, l, ok)
		}
	}
}

// 9.1: what layer 5 refuses.
func TestRefused(t *testing.T) {
	for _, s := range []string{"=", "==", "= ", "=  ", "==1", "='", "='1", "='a'", "=1+", "=+1", "=1 2", "=(1", "=1)", "=()", "=a", "=a1", "=sum(1)", "=Sum(1)", "=true", "=SUM", "=SUM(1,)", "=SUM(,1)", "=01", "=007", "=1.5", "=" + beyond, "=\"", "=\"a", "=\"\n\"", "=\t1", "=1\n", "=\x00", "=\xff", "=é",
		"=1 < = 2", "=#REF", "=#N/A", "=A0", "=A1000", "=AAA1", "=A1:", "=A1:S!B2", "=B2:A1", "=B2:A3", "=A2:B1", "=S1!", "=1;2", "={1}", "=A1:B2:C3", "=TRUE()", "=ABCDEFGHIJKLM()"} {
		refuses(t, s, api.ErrForm)
		if May(s) {
			t.Errorf("9.1: May of %q: true", s)
		}
		no(t, s)
	}
	for _, s := range []string{"=" + strings.Repeat("(", 13), "=" + strings.Repeat("(", 13) + "1" + strings.Repeat(")", 13), "=" + strings.Repeat("-", 13) + "1", "=" + strings.Repeat("F(", 13) + strings.Repeat(")", 13), "=" + strings.Repeat("(", 50)} {
		refuses(t, s, api.ErrDeep)
		if May(s) {
			t.Errorf("9.1: May of %q: true", s)
		}
		no(t, s)
	}
	keeps(t, "="+strings.Repeat("-", 12)+"1")
	keeps(t, "="+strings.Repeat("F(", 12)+strings.Repeat(")", 12))
	turns(t, "="+strings.Repeat("(", 12)+"1"+strings.Repeat(")", 12), "=1")
	turns(t, "="+strings.Repeat("-(", 6)+"1"+strings.Repeat(")", 6), "=------1")
	// Layer 5's ErrLarge stands behind the ErrLarge of what is put in.
	refuses(t, "="+strings.Repeat(" ", api.MaxCell)+"1", api.ErrLarge)
	refuses(t, "=1"+strings.Repeat("+1", 150), api.ErrLarge)
}

// 9.1: MaxText bytes, and one more, are put in.
func TestMaxText(t *testing.T) {
	keeps(t, "'"+x(99))
	refuses(t, "'"+x(100), api.ErrLarge)
	turns(t, x(98), "'"+x(98))
	turns(t, x(99), "'"+x(99))
	refuses(t, x(100), api.ErrLarge)
	refuses(t, x(101), api.ErrLarge)
	turns(t, noughts(99)+"5", "5")
	refuses(t, noughts(100)+"5", api.ErrLarge)
	turns(t, "-"+noughts(98)+"5", "-5")
	refuses(t, "-"+noughts(99)+"5", api.ErrLarge)
	turns(t, noughts(100), "0")
	refuses(t, noughts(101), api.ErrLarge)
	turns(t, "-"+noughts(99), "0")
	refuses(t, "-"+noughts(100), api.ErrLarge)
	turns(t, noughts(100-19)+greatest, greatest)
	refuses(t, noughts(100-19)+beyond, api.ErrLarge)
	turns(t, noughts(99-19)+beyond, "'"+noughts(99-19)+beyond)
	turns(t, "-"+noughts(100-20)+least[1:], least)
	refuses(t, "-"+noughts(100-20)+beyondLeast[1:], api.ErrLarge)
	turns(t, strings.Repeat("9", 99), "'"+strings.Repeat("9", 99))
	refuses(t, strings.Repeat("9", 100), api.ErrLarge)
	turns(t, strings.Repeat(" ", 99), "'"+strings.Repeat(" ", 99))
	refuses(t, strings.Repeat("\x00", 100), api.ErrLarge)
	turns(t, strings.Repeat("é", 49), "'"+strings.Repeat("é", 49))
	refuses(t, strings.Repeat("é", 50), api.ErrLarge)
}

// 9.1: formulas of MaxText bytes and one more, as they are put in and as they are kept. None is kept longer than it is
// put in.
func TestMaxFormula(t *testing.T) {
	turns(t, "="+strings.Repeat(" ", 98)+"1", "=1")
	refuses(t, "="+strings.Repeat(" ", 99)+"1", api.ErrLarge)
	turns(t, "=1"+strings.Repeat(" ", 98), "=1")
	refuses(t, "=1"+strings.Repeat(" ", 99), api.ErrLarge)
	keeps(t, "=\""+x(97)+"\"")
	refuses(t, "=\""+x(98)+"\"", api.ErrLarge)
	keeps(t, "=\""+strings.Repeat(`"`, 96)+"x\"")
	refuses(t, "=\""+strings.Repeat(`"`, 98)+"\"", api.ErrLarge)
	keeps(t, "=11"+strings.Repeat("+2", 97/2)+"0")
	refuses(t, "=11"+strings.Repeat("+2", 98/2)+"0", api.ErrLarge)
	// A Print of just MaxText bytes, and of one more, is shorter than what is put in: that is too long as it is.
	refuses(t, "= \""+x(97)+"\"", api.ErrLarge)
	refuses(t, "=(\""+x(97)+"\")", api.ErrLarge)
	refuses(t, "= \""+x(98)+"\"", api.ErrLarge)
	refuses(t, "=(\""+x(98)+"\")", api.ErrLarge)
	// So is one of fewer bytes, and what says nothing: what is put in counts first.
	turns(t, "=(\""+x(95)+"\")", "=\""+x(95)+"\"")
	refuses(t, "=(\""+x(96)+"\")", api.ErrLarge)
	refuses(t, "=1+"+strings.Repeat(" ", 98), api.ErrLarge)
	refuses(t, "=1+"+strings.Repeat(" ", 97), api.ErrForm)
	refuses(t, "="+strings.Repeat("(", 99), api.ErrDeep)
	refuses(t, "="+strings.Repeat("(", 100), api.ErrLarge)
}

// 9.1: what has MaxCell bytes, and one more.
func TestMaxCell(t *testing.T) {
	fault := api.Val{Kind: api.VErr, N: api.EValue}
	for _, c := range []struct {
		s       string
		may, is bool
	}{
		{"'" + x(299), true, false}, {"'" + x(300), false, false}, {"'" + x(5000), false, false},
		{x(300), false, false}, {noughts(300), false, false}, {"=" + x(299), false, false},
		{"=\"" + x(297) + "\"", true, true}, {"=\"" + x(298) + "\"", false, false}, {"=\"" + x(299) + "\"", false, false},
		{"=1" + strings.Repeat("+1", 149), true, true}, {"=11" + strings.Repeat("+1", 149), false, false},
		{"=(\"" + x(295) + "\")", false, false}, {"=(\"" + x(298) + "\")", false, false}, {"=\"" + x(296) + "\" ", false, false},
	} {
		l, ok := Formula(c.s)
		if May(c.s) != c.may || ok != c.is || ok != (len(l) > 0) {
			t.Errorf("9.1: of %q (%d): May %v, Formula %v", c.s, len(c.s), May(c.s), ok)
		}
		hasValue(t, c.s, fault)
		refuses(t, c.s, api.ErrLarge)
	}
}

// 9.1: a text of MaxResult bytes behind its ', and of one more.
func TestMaxResult(t *testing.T) {
	for _, c := range []string{"x", "\x00", "'", "=", "0", "\xff"} {
		s := strings.Repeat(c, 200)
		hasValue(t, "'"+s[1:], api.Val{Kind: api.VText, S: s[1:]})
		hasValue(t, "'"+s, api.Val{Kind: api.VText, S: s})
		hasValue(t, "'"+s+c, api.Val{Kind: api.VErr, N: api.EValue})
		if !May("'"+s) || !May("'"+s+c) {
			t.Errorf("9.1: May of %q", s)
		}
		check(t, "'"+s)
		check(t, "'"+s+c)
	}
}

// 9.1: what has no value of its own, and may not be.
func TestNoKind(t *testing.T) {
	for _, s := range []string{"007", "-0", "00", "-00", "01", "-01", "+1", "-", " ", " 1", "1 ", "x", "\x00", "\xff", "é", beyond, beyondLeast, "0" + greatest, "99999999999999999999", "=(1)", "= 1", "=1 ", "=1 +2", "=(1+2)+3", "=-(1)", "=SUM( 1)", "=", "=a", "=1+", " '", " =1"} {
		if May(s) {
			t.Errorf("9.1: May of %q: true", s)
		}
		no(t, s)
		check(t, s)
	}
}

// R3: who writes into an answer of Formula changes nothing else.
func TestOwnMemory(t *testing.T) {
	const s = "=F(1,2)+G(3,4)"
	l, _ := Formula(s)
	want, _ := parse.Parse(s[1:])
	for i := range l {
		l[i].Kids = append(l[i].Kids, 99)[:len(l[i].Kids)]
	}
	l = append(l, api.Node{Kind: api.NNum})[:len(l)]
	if !same(l, want) {
		t.Errorf("R3: two lists share memory: %v", l)
	}
	for i := range l {
		clear(l[i].Kids)
		l[i] = api.Node{}
	}
	if again, ok := Formula(s); !ok || !same(again, want) {
		t.Errorf("R3: Formula told what was written into: %v", again)
	}
}
