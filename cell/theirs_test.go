package cell

import (
	"math/big"
	"regexp"
	"slices"
	"strings"
	"testing"

	"chequer/api"
	"chequer/parse"
	"chequer/show"
)

// What the document says of cells, in another way: forms of whole texts and not first bytes, numbers of any size.

var (
	anyNumber = regexp.MustCompile(`^-?[0-9]+$`)
	keptForm  = regexp.MustCompile(`^(0|-?[1-9][0-9]*)$`)
)

// theirNumber tells the number of 64 bits that s is.
func theirNumber(s string, form *regexp.Regexp) (*big.Int, bool) {
	if !form.MatchString(s) {
		return nil, false
	}
	n, _ := new(big.Int).SetString(s, 10)
	return n, n.IsInt64()
}

func theirNorm(s string) (string, api.Errno) {
	n, isNumber := theirNumber(s, anyNumber)
	f, isFormula := strings.CutPrefix(s, "=")
	told := "'" + s
	switch {
	case len(s) > 100:
		return "", 4
	case s == "" || strings.HasPrefix(s, "'"):
		return s, 0
	case isFormula:
		l, e := parse.Parse(f)
		if e != 0 {
			return "", e
		}
		told = "=" + show.Print(l)
	case isNumber:
		return n.String(), 0
	}
	if len(told) > 100 {
		return "", 4
	}
	return told, 0
}

func theirFormula(s string) ([]api.Node, bool) {
	f, ok := strings.CutPrefix(s, "=")
	if !ok || len(s) > 300 {
		return nil, false
	}
	l, e := parse.Parse(f)
	if e != 0 || show.Print(l) != f {
		return nil, false
	}
	return l, true
}

func theirMay(s string) bool {
	_, isNumber := theirNumber(s, keptForm)
	_, isFormula := theirFormula(s)
	return len(s) <= 300 && (s == "" || s[0] == '\'' || isNumber || isFormula)
}

func theirPlain(s string) api.Val {
	n, isNumber := theirNumber(s, keptForm)
	text, isText := strings.CutPrefix(s, "'")
	switch {
	case s == "":
		return api.Val{}
	case isText && len(text) <= 200:
		return api.Val{Kind: 2, S: text}
	case isNumber:
		return api.Val{Kind: 1, N: int(n.Int64())}
	}
	return api.Val{Kind: 4, N: 1}
}

// check holds what all calls tell of a text against what the document says, and asks what Norm tells of it for 9.2.
func check(t *testing.T, s string) {
	t.Helper()
	if l, ok := Formula(s); ok != (l != nil) {
		t.Fatalf("9.1: Formula of %q: %v, %v", s, l, ok)
	} else if want, is := theirFormula(s); ok != is || !same(l, want) {
		t.Fatalf("9.1: Formula of %q: %v, %v", s, l, ok)
	}
	if got := May(s); got != theirMay(s) {
		t.Fatalf("9.1: May of %q: %v", s, got)
	}
	if got := Plain(s); got != theirPlain(s) {
		t.Fatalf("9.1: Plain of %q: %v", s, got)
	}
	told, e := Norm(s)
	if want, not := theirNorm(s); told != want || e != not {
		t.Fatalf("9.1: Norm of %q: %q, %d, not %q, %d", s, told, e, want, not)
	}
	checkKept(t, s, told, e)
}

// checkKept asks, if Norm told something of s, whether that may be and stays.
func checkKept(t *testing.T, s, told string, e api.Errno) {
	t.Helper()
	if e != api.OK {
		if told != "" || e != api.ErrLarge && s[0] != '=' {
			t.Fatalf("9.1: Norm of %q: %q, %d", s, told, e)
		}
		return
	}
	if len(told) > api.MaxText || !May(told) {
		t.Fatalf("9.2: Norm of %q is %q, which may not be", s, told)
	}
	if again, e := Norm(told); again != told || e != api.OK {
		t.Fatalf("9.2: Norm of %q is %q, that of it %q, %d", s, told, again, e)
	}
	if May(s) && told != s {
		t.Fatalf("9.1: %q may be, yet Norm tells %q", s, told)
	}
}

// same tells whether two lists of nodes are alike in all fields; a nil list and an empty one are one.
func same(a, b []api.Node) bool {
	return slices.EqualFunc(a, b, func(m, n api.Node) bool {
		return m.Kind == n.Kind && m.Num == n.Num && m.Text == n.Text && m.Ref == n.Ref && m.To == n.To && slices.Equal(m.Kids, n.Kids)
	})
}

// dice tells numbers that look like any, the same ones in every run.
type dice uint64

func (d *dice) below(n int) int {
	*d = *d*6364136223846793005 + 1442695040888963407
	return int(uint64(*d)>>33) % n
}

// anyOf tells one of some texts.
func (d *dice) anyOf(l ...string) string {
	return l[d.below(len(l))]
}

// row tells up to so many of some texts, one behind the other.
func (d *dice) row(most int, l ...string) string {
	var b strings.Builder
	for range d.below(most + 1) {
		b.WriteString(d.anyOf(l...))
	}
	return b.String()
}

// bytes tells up to so many bytes, of all there are.
func (d *dice) bytes(most int) string {
	b := make([]byte, d.below(most+1))
	for i := range b {
		b[i] = byte(d.below(256))
	}
	return string(b)
}

// formula tells one at most so deep, with blanks and brackets that need not stand.
func (d *dice) formula(deep int) string {
	blank := d.anyOf("", "", " ", "  ")
	n := d.below(6)
	switch {
	case deep == 0 || n == 0:
		return blank + d.anyOf("0", "1", "42", `""`, `"a b"`, `"x""y"`, "TRUE", "FALSE", "#REF!", "A1", "S1!$B3", "s!ZZ$999", "A1:$B2", "S1!C3 : C4", "NOW()") + blank
	case n == 1:
		return blank + "-" + d.formula(deep-1)
	case n == 2:
		return blank + "(" + d.formula(deep-1) + ")" + blank
	case n == 3:
		return d.anyOf("F", "SUM", "A0") + blank + "(" + d.formula(deep-1) + "," + d.formula(deep-1) + ")" + blank
	}
	return d.formula(deep-1) + d.anyOf("=", "<>", "<", "<=", ">", ">=", "&", "+", "-", "*", "/") + d.formula(deep-1)
}

// anyCell tells a text of one of the kinds, or close to it.
func (d *dice) anyCell() string {
	switch d.below(8) {
	case 0:
		return "'" + d.bytes(110)
	case 1:
		return d.bytes(110)
	case 2:
		return "=" + d.formula(d.below(4))
	case 3:
		return "=" + d.row(20, "(", ")", "-", " ", "1", "A1", "F(", ",", "+", "=", `"`, ":", "a")
	case 4:
		deep := 9 + d.below(7)
		return "=" + strings.Repeat(d.anyOf("(", "-(", "F(", "("), deep) + d.formula(1) + strings.Repeat(")", deep)
	case 5:
		return d.row(1, "-") + strings.Repeat("0", d.below(3)*d.below(50)) + d.row(21, "0", "1", "5", "9")
	case 6:
		return d.row(3, "-", "+", " ", ".", "'", "=") + d.row(4, "0", "1", "7") + d.row(2, "-", "+", " ", ".", "e1", "_")
	}
	return d.row(6, "a", "Z", "'", "=", "-", "0", "9", " ", "\x00", "\n", "é", "\xff", `"`)
}
