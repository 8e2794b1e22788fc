package fun

import (
	"fmt"
	"math"
	"slices"
	"strings"
	"testing"

	"chequer/api"
)

const (
	most  = math.MaxInt
	least = math.MinInt
)

var (
	none = api.Val{}
	yes  = api.Val{Kind: api.VBool, N: 1}
	not  = api.Val{Kind: api.VBool}
)

func num(n int) api.Val { return api.Val{Kind: api.VInt, N: n} }

func str(s string) api.Val { return api.Val{Kind: api.VText, S: s} }

func no(n int) api.Val { return api.Val{Kind: api.VErr, N: n} }

func bin(is bool) api.Val {
	if is {
		return yes
	}
	return not
}

func one(v api.Val) api.Arg { return api.Arg{Vals: []api.Val{v}} }

// each tells arguments that are no Ranges.
func each(vals ...api.Val) (args []api.Arg) {
	for _, v := range vals {
		args = append(args, one(v))
	}
	return args
}

// nums tells arguments that are numbers.
func nums(l ...int) (args []api.Arg) {
	for _, n := range l {
		args = append(args, one(num(n)))
	}
	return args
}

func span(cols int, vals ...api.Val) api.Arg {
	return api.Arg{Range: true, Cols: cols, Vals: vals}
}

func spans(cols int, vals ...api.Val) []api.Arg {
	return []api.Arg{span(cols, vals...)}
}

func allNames() []string {
	return []string{"SUM", "MIN", "MAX", "COUNT", "AND", "OR", "IF", "NOT", "ABS", "MOD", "LEN", "LEFT", "RIGHT", "MID",
		"CONCAT", "ISERR", "ROWS", "COLS"}
}

func allErrors() []api.Val {
	return []api.Val{no(api.EValue), no(api.ENum), no(api.EDiv), no(api.ERef), no(api.EName), no(api.ECycle)}
}

// brief tells arguments of a test that failed.
func brief(args ...api.Arg) string {
	var b strings.Builder
	for _, a := range args {
		if a.Range {
			fmt.Fprintf(&b, " [%d:", a.Cols)
		}
		for _, v := range a.Vals {
			fmt.Fprintf(&b, " {%d %d %q}", v.Kind, v.N, v.S)
		}
		if a.Range {
			b.WriteString("]")
		}
	}
	return b.String()
}

func expect(t *testing.T, name string, args []api.Arg, want api.Val) {
	t.Helper()
	if got := Call(name, args); got != want {
		t.Errorf("8.1: %s of%s:%s, not%s", name, brief(args...), brief(one(got)), brief(one(want)))
	}
}

// sample is a call, and what it tells.
type sample struct {
	args []api.Arg
	want api.Val
}

func expectAll(t *testing.T, name string, l []sample) {
	t.Helper()
	for _, c := range l {
		expect(t, name, c.args, c.want)
	}
}

// mixed has 3 rows of 2 columns, with values of all kinds but errors.
func mixed() api.Arg {
	return span(2, num(4), none, str("x"), yes, num(-9), num(2))
}

func TestSum(t *testing.T) {
	expectAll(t, "SUM", []sample{
		{nums(1, 2), num(3)}, {nums(7), num(7)}, {nums(-4), num(-4)}, {nums(1, 2, 3, 4, 5, 6, 7, 8, 9, 10), num(55)},
		{each(none), num(0)}, {each(none, none), num(0)}, {each(num(3), none, num(4)), num(7)},
		{[]api.Arg{mixed()}, num(-3)}, {[]api.Arg{mixed(), one(num(5))}, num(2)},
		{[]api.Arg{one(num(5)), mixed(), mixed()}, num(-1)}, {spans(0), num(0)}, {spans(3), num(0)},
		{spans(1, str("1"), yes), num(0)}, {spans(2, none, none), num(0)},
		{[]api.Arg{span(0), one(num(3)), span(2)}, num(3)},
		{spans(3, num(1), num(2), num(3), num(4), num(5), num(6)), num(21)},
	})
}

func TestSumsOnTheWay(t *testing.T) {
	expectAll(t, "SUM", []sample{
		{nums(most), num(most)}, {nums(least), num(least)}, {nums(most, 0), num(most)}, {nums(most, least), num(-1)},
		{nums(least, most), num(-1)}, {nums(most-1, 1), num(most)}, {nums(least+1, -1), num(least)},
		{nums(most, 1), no(api.ENum)}, {nums(1, most), no(api.ENum)}, {nums(least, -1), no(api.ENum)},
		{nums(-1, least), no(api.ENum)}, {nums(most, most), no(api.ENum)}, {nums(least, least), no(api.ENum)},
		{nums(most, 1, -5), no(api.ENum)}, {nums(most, -5, 1), num(most - 4)}, {nums(-5, most, 1), num(most - 4)},
		{nums(least, -1, 5), no(api.ENum)}, {nums(least, 5, -1), num(least + 4)},
		{nums(most, most, least, least), no(api.ENum)}, {nums(most, least, most, least), num(-2)},
		{nums(least, least, 0), no(api.ENum)}, {nums(most, 1, least, least), no(api.ENum)},
		{spans(1, num(most), num(1), num(-5)), no(api.ENum)},
		{spans(2, num(most), num(-5), none, num(1)), num(most - 4)},
		{spans(2, num(most), str("-5"), num(1), num(-5)), no(api.ENum)},
		{[]api.Arg{one(num(most)), span(1, num(1)), one(num(-5))}, no(api.ENum)},
		{[]api.Arg{span(1, num(most)), one(num(-5)), span(1, num(1))}, num(most - 4)},
		{nums(1<<62, 1<<62, -1<<62), no(api.ENum)}, {nums(1<<62, 1<<62-1), num(most)},
	})
}

// TestSumsBesideErrors: what is no number, and errors that come in, are told ahead of a sum that does not go in.
func TestSumsBesideErrors(t *testing.T) {
	expectAll(t, "SUM", []sample{
		{each(num(most), num(1), str("")), no(api.EValue)}, {each(str(""), num(most), num(1)), no(api.EValue)},
		{each(num(most), num(1), yes), no(api.EValue)}, {each(not, num(most), num(1)), no(api.EValue)},
		{each(num(most), str("5"), num(1)), no(api.EValue)}, {each(num(most), num(1), num(-5), not), no(api.EValue)},
		{each(num(most), num(1), no(api.EValue)), no(api.EValue)},
		{each(no(api.EValue), num(most), num(1)), no(api.EValue)},
		{each(num(most), num(1), no(api.EDiv)), no(api.EDiv)}, {each(no(api.ERef), num(most), num(1)), no(api.ERef)},
		{each(num(most), num(1), str(""), no(api.EDiv)), no(api.EDiv)}, {each(str(""), no(api.EName)), no(api.EName)},
		{each(no(api.ENum), no(api.EValue), str("")), no(api.ENum)},
		{each(str(""), no(api.ENum), no(api.EValue)), no(api.ENum)},
		{[]api.Arg{span(1, num(most), num(1)), one(str("x"))}, no(api.EValue)},
		{[]api.Arg{one(yes), span(1, num(most), num(1))}, no(api.EValue)},
		{[]api.Arg{span(1, num(most), num(1), str("x"), yes)}, no(api.ENum)},
		{[]api.Arg{span(1, num(most), num(1)), span(1, none, no(api.EValue))}, no(api.EValue)},
		{[]api.Arg{one(str("x")), span(2, num(1), no(api.ECycle))}, no(api.ECycle)},
	})
}

func TestNoNumbers(t *testing.T) {
	for _, name := range []string{"SUM", "MIN", "MAX"} {
		for _, v := range []api.Val{str(""), str("1"), str("x"), str("TRUE"), yes, not} {
			expect(t, name, each(v), no(api.EValue))
			expect(t, name, each(num(1), v), no(api.EValue))
			expect(t, name, each(v, num(1)), no(api.EValue))
			expect(t, name, []api.Arg{mixed(), one(v)}, no(api.EValue))
			expect(t, name, []api.Arg{one(v), mixed()}, no(api.EValue))
			expect(t, name, spans(1, v), num(0))
			expect(t, name, spans(2, v, num(-7), v, none), num(-7))
			expect(t, name, []api.Arg{span(1, v), one(num(8))}, num(8))
		}
		expect(t, name, each(none, none), num(0))
		expect(t, name, spans(4), num(0))
		expect(t, name, []api.Arg{span(1, none), one(none), span(0)}, num(0))
	}
}

func TestExtremes(t *testing.T) {
	for _, c := range []struct {
		args      []api.Arg
		low, high int
	}{
		{nums(5), 5, 5}, {nums(-5), -5, -5}, {nums(3, 1, 2), 1, 3}, {nums(1, 2, 3), 1, 3}, {nums(3, 2, 1), 1, 3},
		{nums(-3, -1, -2), -3, -1}, {nums(most, least), least, most}, {nums(least, most), least, most},
		{nums(most), most, most}, {nums(least), least, least}, {nums(most, most-1), most - 1, most},
		{nums(least, least+1), least, least + 1}, {nums(0, 1), 0, 1}, {nums(0, -1), -1, 0}, {nums(4, 4), 4, 4},
		{nums(2, 1<<32), 2, 1 << 32}, {nums(2, -1<<32), -1 << 32, 2}, {each(num(-5), none), -5, -5},
		{each(none, num(5)), 5, 5}, {each(none, num(5), none, num(7)), 5, 7}, {[]api.Arg{mixed()}, -9, 4},
		{[]api.Arg{mixed(), one(num(-10))}, -10, 4}, {[]api.Arg{one(num(10)), mixed()}, -9, 10},
		{spans(2, none, num(6), none, num(8)), 6, 8}, {spans(1, none, num(-6), str("z"), num(-8), not), -8, -6},
		{[]api.Arg{span(0), one(num(-1))}, -1, -1},
		{[]api.Arg{span(1, num(3)), span(1, num(9)), span(1, num(1))}, 1, 9},
	} {
		expect(t, "MIN", c.args, num(c.low))
		expect(t, "MAX", c.args, num(c.high))
	}
}

func TestCount(t *testing.T) {
	bad := span(1, num(1), no(api.EDiv), no(api.ENum))
	expectAll(t, "COUNT", []sample{
		{nums(5), num(1)}, {nums(0, 0, 0), num(3)}, {each(none), num(0)}, {each(str("5")), num(0)}, {each(yes), num(0)},
		{each(not), num(0)}, {each(no(api.EValue)), num(0)},
		{each(num(1), none, str("2"), yes, no(api.ERef), num(3)), num(2)}, {[]api.Arg{mixed()}, num(3)},
		{[]api.Arg{mixed(), bad, one(str("5")), one(num(5))}, num(5)}, {spans(0), num(0)},
		{spans(2, none, none), num(0)}, {[]api.Arg{bad, bad}, num(2)}, {nums(most, most, least), num(3)},
		{[]api.Arg{span(0), one(num(1)), span(5)}, num(1)},
	})
	for _, e := range allErrors() {
		expect(t, "COUNT", each(e, num(1), e), num(1))
		expect(t, "COUNT", spans(1, e, num(1), num(2)), num(2))
	}
}

func TestAndOr(t *testing.T) {
	for _, c := range []struct {
		args    []api.Arg
		and, or api.Val
	}{
		{each(yes), yes, yes}, {each(not), not, not}, {nums(0), not, not}, {nums(1), yes, yes}, {nums(-1), yes, yes},
		{nums(most, least), yes, yes}, {each(yes, yes), yes, yes}, {each(yes, not), not, yes},
		{each(not, yes), not, yes}, {each(not, not), not, not}, {each(yes, num(5)), yes, yes},
		{each(num(5), num(0)), not, yes}, {each(num(0), not), not, not}, {each(not, num(2)), not, yes},
		{each(yes, none), yes, yes}, {each(none, not), not, not}, {each(none, num(0), none), not, not},
		{nums(1, 1, 1, 1, 0), not, yes}, {nums(0, 0, 0, 0, 1), not, yes}, {nums(1, 0, 1), not, yes},
		{nums(0, 1, 0), not, yes}, {nums(1<<32, 1<<40), yes, yes}, {[]api.Arg{mixed()}, yes, yes},
		{[]api.Arg{mixed(), one(num(0))}, not, yes}, {spans(1, str("x"), yes, none), yes, yes},
		{spans(1, str("x"), not, none), not, not}, {spans(2, str("FALSE"), none, num(0), str("")), not, not},
		{[]api.Arg{one(not), span(1, num(0), none, num(7))}, not, yes},
		{[]api.Arg{span(1, str("x")), one(yes)}, yes, yes}, {[]api.Arg{span(0), one(not), span(1, none)}, not, not},
	} {
		expect(t, "AND", c.args, c.and)
		expect(t, "OR", c.args, c.or)
	}
	bad := no(api.EValue)
	for _, name := range []string{"AND", "OR"} {
		expectAll(t, name, []sample{
			{each(none), bad}, {each(none, none), bad}, {spans(0), bad}, {spans(3), bad}, {spans(1, none), bad},
			{spans(1, str("x"), str("TRUE")), bad}, {spans(2, none, str("")), bad}, {each(str("TRUE")), bad},
			{each(str("")), bad}, {each(str("x"), num(0)), bad}, {each(num(0), str("x")), bad},
			{each(yes, str("1")), bad}, {[]api.Arg{one(str("x")), span(1, yes, not)}, bad},
			{[]api.Arg{span(1, yes, not), one(str(""))}, bad}, {[]api.Arg{span(1, str("x")), one(none), span(0)}, bad},
			{each(str("x"), no(api.EDiv)), no(api.EDiv)}, {each(not, no(api.EDiv), yes), no(api.EDiv)},
			{spans(1, yes, no(api.ERef), no(api.EDiv), not), no(api.ERef)},
			{[]api.Arg{span(1, none), one(no(api.ECycle))}, no(api.ECycle)},
		})
	}
}

func TestIf(t *testing.T) {
	div, ref, bad := no(api.EDiv), no(api.ERef), no(api.EValue)
	expectAll(t, "IF", []sample{
		{each(yes, num(1), num(2)), num(1)}, {each(not, num(1), num(2)), num(2)},
		{each(num(1), str("a"), str("b")), str("a")}, {each(num(0), str("a"), str("b")), str("b")},
		{each(num(-1), num(1), num(2)), num(1)}, {each(none, num(1), num(2)), num(2)},
		{each(num(least), num(1), num(2)), num(1)}, {each(num(1<<32), num(1), num(2)), num(1)},
		{each(yes, num(1)), num(1)}, {each(not, num(1)), not}, {each(none, num(1)), not}, {each(num(0), yes), not},
		{each(yes, none), none}, {each(not, num(1), none), none}, {each(yes, not, yes), not},
		{each(not, not, yes), yes}, {each(yes, str(""), num(1)), str("")}, {each(not, num(1), str("")), str("")},
		{each(yes, num(1), div), num(1)}, {each(not, div, num(2)), num(2)}, {each(not, div), not},
		{each(yes, div, num(2)), div}, {each(yes, div), div}, {each(not, num(1), div), div}, {each(yes, div, ref), div},
		{each(not, div, ref), ref}, {each(ref, num(1), num(2)), ref}, {each(ref, num(1)), ref},
		{each(ref, div, bad), ref}, {each(div, ref), div}, {each(str("TRUE"), num(1), num(2)), bad},
		{each(str(""), num(1)), bad}, {each(str("x"), div, ref), bad}, {each(str("1"), num(1)), bad},
	})
	for _, e := range allErrors() {
		expect(t, "IF", each(e, num(1)), e)
		expect(t, "IF", each(e, no(api.ENum), no(api.EName)), e)
		expect(t, "IF", each(yes, e, num(1)), e)
		expect(t, "IF", each(not, num(1), e), e)
		expect(t, "IF", each(yes, num(1), e), num(1))
		expect(t, "IF", each(not, e, num(1)), num(1))
	}
}

func TestNotAbsLen(t *testing.T) {
	long := strings.Repeat("x", api.MaxResult)
	bad := no(api.EValue)
	for _, c := range []struct{ v, not, abs, len api.Val }{
		{none, yes, num(0), num(0)}, {num(0), yes, num(0), num(1)}, {num(1), not, num(1), num(1)},
		{num(-1), not, num(1), num(2)}, {num(7), not, num(7), num(1)}, {num(-120), not, num(120), num(4)},
		{num(most), not, num(most), num(19)}, {num(-most), not, num(most), num(20)},
		{num(least), not, no(api.ENum), num(20)}, {num(least + 1), not, num(most), num(20)},
		{num(1 << 32), not, num(1 << 32), num(10)}, {num(-1 << 32), not, num(1 << 32), num(11)},
		{yes, not, bad, num(4)}, {not, yes, bad, num(5)}, {str(""), bad, bad, num(0)}, {str("0"), bad, bad, num(1)},
		{str("-5"), bad, bad, num(2)}, {str("TRUE"), bad, bad, num(4)}, {str("é"), bad, bad, num(2)},
		{str("日本"), bad, bad, num(6)}, {str("\x00\xff"), bad, bad, num(2)},
		{str(long), bad, bad, num(api.MaxResult)},
	} {
		expect(t, "NOT", each(c.v), c.not)
		expect(t, "ABS", each(c.v), c.abs)
		expect(t, "LEN", each(c.v), c.len)
	}
}

func TestMod(t *testing.T) {
	for _, c := range []struct{ a, b, want int }{
		{7, 3, 1}, {-7, 3, 2}, {7, -3, -2}, {-7, -3, -1}, {6, 3, 0}, {-6, 3, 0}, {6, -3, 0}, {-6, -3, 0}, {0, 5, 0},
		{0, -5, 0}, {2, 5, 2}, {-2, 5, 3}, {2, -5, -3}, {-2, -5, -2}, {5, 1, 0}, {5, -1, 0}, {-5, 1, 0}, {-5, -1, 0},
		{least, -1, 0}, {least, 1, 0}, {most, -1, 0}, {most, 1, 0}, {least, least, 0}, {most, most, 0},
		{least, most, most - 1}, {most, least, -1}, {-1, most, most - 1}, {1, least, least + 1}, {-1, least, -1},
		{1, most, 1}, {least, 2, 0}, {most, 2, 1}, {least, 10, 2}, {least, -10, -8}, {most, -10, -3},
		{least + 1, most, 0}, {most - 1, most, most - 1}, {-most, least, -most}, {0, least, 0}, {0, most, 0},
		{1, 1 << 32, 1}, {-1, 1 << 32, 1<<32 - 1},
	} {
		expect(t, "MOD", nums(c.a, c.b), num(c.want))
	}
	div, bad := no(api.EDiv), no(api.EValue)
	expectAll(t, "MOD", []sample{
		{nums(1, 0), div}, {nums(0, 0), div}, {nums(least, 0), div}, {nums(most, 0), div}, {each(num(1), none), div},
		{each(none, none), div}, {each(none, num(3)), num(0)}, {each(none, num(-3)), num(0)},
		{each(str(""), num(0)), bad}, {each(str("7"), num(3)), bad}, {each(num(7), str("3")), bad},
		{each(num(7), str("")), bad}, {each(yes, num(3)), bad}, {each(num(3), yes), bad}, {each(num(3), not), bad},
		{each(not, num(0)), bad}, {each(str("x"), none), bad}, {each(yes, not), bad},
		{each(str("x"), no(api.ENum)), no(api.ENum)}, {each(num(1), no(api.ENum)), no(api.ENum)},
		{each(no(api.EName), num(0)), no(api.EName)}, {each(no(api.ERef), str("")), no(api.ERef)},
		{each(no(api.ERef), no(api.ENum)), no(api.ERef)},
	})
}

// TestSmallMod: the one number that has b's sign, is nearer to nought than b, and from which a is so many times b away.
func TestSmallMod(t *testing.T) {
	for a := -40; a <= 40; a++ {
		for b := -12; b <= 12; b++ {
			if b == 0 {
				continue
			}
			want, found := 0, 0
			for r := min(b+1, 0); r <= max(b-1, 0); r++ {
				if (a-r)%b == 0 {
					want, found = r, found+1
				}
			}
			if found != 1 {
				t.Fatalf("the test is wrong: %d, %d", a, b)
			}
			expect(t, "MOD", nums(a, b), num(want))
		}
	}
}

func TestLeftRight(t *testing.T) {
	for _, c := range []struct {
		v           api.Val
		n           int
		left, right string
	}{
		{str("abc"), 0, "", ""}, {str("abc"), 1, "a", "c"}, {str("abc"), 2, "ab", "bc"}, {str("abc"), 3, "abc", "abc"},
		{str("abc"), 4, "abc", "abc"}, {str("abc"), most, "abc", "abc"}, {str(""), 0, "", ""}, {str(""), 1, "", ""},
		{str(""), most, "", ""}, {num(123), 2, "12", "23"}, {num(-45), 2, "-4", "45"},
		{num(least), 5, "-9223", "75808"}, {yes, 2, "TR", "UE"}, {not, 9, "FALSE", "FALSE"}, {none, 0, "", ""},
		{none, 3, "", ""}, {str("é"), 1, "\xc3", "\xa9"}, {str("a\x00\xff"), 2, "a\x00", "\x00\xff"},
		{str("ab"), 1 << 32, "ab", "ab"}, {str("  a "), 3, "  a", " a "},
	} {
		expect(t, "LEFT", each(c.v, num(c.n)), str(c.left))
		expect(t, "RIGHT", each(c.v, num(c.n)), str(c.right))
	}
	bad := no(api.EValue)
	for _, name := range []string{"LEFT", "RIGHT"} {
		expectAll(t, name, []sample{
			{each(str("abc"), none), str("")}, {each(num(123), none), str("")}, {each(none, none), str("")},
			{nums(123, -1), bad}, {each(str("abc"), num(-1)), bad}, {each(str("abc"), num(least)), bad},
			{each(none, num(-1)), bad}, {each(str("abc"), str("1")), bad}, {each(str("abc"), str("")), bad},
			{each(str("abc"), yes), bad}, {each(str("abc"), not), bad}, {each(str("abc"), no(api.EDiv)), no(api.EDiv)},
			{each(no(api.EName), num(-1)), no(api.EName)}, {each(no(api.EName), no(api.EDiv)), no(api.EName)},
		})
	}
}

func TestMid(t *testing.T) {
	for _, c := range []struct {
		v        api.Val
		place, n int
		want     string
	}{
		{str("abcd"), 1, 0, ""}, {str("abcd"), 1, 1, "a"}, {str("abcd"), 1, 4, "abcd"}, {str("abcd"), 1, 5, "abcd"},
		{str("abcd"), 2, 2, "bc"}, {str("abcd"), 2, 3, "bcd"}, {str("abcd"), 2, 4, "bcd"}, {str("abcd"), 4, 1, "d"},
		{str("abcd"), 4, 0, ""}, {str("abcd"), 4, 9, "d"}, {str("abcd"), 5, 1, ""}, {str("abcd"), 5, 0, ""},
		{str("abcd"), 6, 1, ""}, {str("abcd"), 9, 2, ""}, {str("abcd"), 3, most, "cd"}, {str("abcd"), 1, most, "abcd"},
		{str("abcd"), most, 1, ""}, {str("abcd"), most, most, ""}, {str("abcd"), most, 0, ""},
		{str("abcd"), 1 << 32, 1, ""}, {str("abcd"), 1<<32 + 1, 1, ""}, {str("abcd"), 2, 1 << 32, "bcd"},
		{str(""), 1, 1, ""}, {str(""), 1, 0, ""}, {str(""), 2, 1, ""}, {none, 1, 1, ""}, {num(-123), 1, 2, "-1"},
		{num(-123), 3, 2, "23"}, {yes, 2, 2, "RU"}, {not, 5, 1, "E"}, {str("é"), 2, 1, "\xa9"},
		{str("\x00a\xff"), 1, 2, "\x00a"},
	} {
		expect(t, "MID", each(c.v, num(c.place), num(c.n)), str(c.want))
	}
	bad := no(api.EValue)
	expectAll(t, "MID", []sample{
		{each(str("abcd"), num(0), num(2)), bad}, {each(str("abcd"), num(-1), num(2)), bad},
		{each(str("abcd"), num(least), num(2)), bad}, {each(str("abcd"), none, num(2)), bad},
		{each(str("abcd"), num(1), num(-1)), bad}, {each(str("abcd"), num(1), num(least)), bad},
		{each(str("abcd"), num(9), num(-1)), bad}, {each(str("abcd"), num(0), num(0)), bad},
		{each(none, num(0), num(0)), bad}, {each(str("abcd"), num(2), none), str("")},
		{each(str("abcd"), str("1"), num(1)), bad}, {each(str("abcd"), num(1), str("1")), bad},
		{each(str("abcd"), yes, num(1)), bad}, {each(str("abcd"), num(1), yes), bad},
		{each(str("abcd"), num(1), not), bad}, {each(str("abcd"), num(1), str("")), bad},
		{each(str("abcd"), num(0), no(api.ENum)), no(api.ENum)},
		{each(str("abcd"), no(api.EDiv), no(api.ENum)), no(api.EDiv)},
		{each(no(api.ERef), num(0), num(-1)), no(api.ERef)},
	})
}

// TestPieces: what stands on the left and what stands on the right is the whole, and MID tells each of both.
func TestPieces(t *testing.T) {
	for _, s := range []string{"", "a", "abc", "dé日", strings.Repeat("0123456789", 20)} {
		for n := range len(s) + 1 {
			expect(t, "LEFT", each(str(s), num(n)), str(s[:n]))
			expect(t, "RIGHT", each(str(s), num(len(s)-n)), str(s[n:]))
			expect(t, "MID", each(str(s), num(1), num(n)), str(s[:n]))
			expect(t, "MID", each(str(s), num(n+1), num(most)), str(s[n:]))
			expect(t, "MID", each(str(s), num(n+1), num(len(s)-n)), str(s[n:]))
			expect(t, "MID", each(str(s), num(n+1), num(1)), str(s[n:min(n+1, len(s))]))
		}
	}
}

func TestConcat(t *testing.T) {
	long := strings.Repeat("x", api.MaxResult)
	bad := no(api.EValue)
	expectAll(t, "CONCAT", []sample{
		{each(str("a"), str("b"), str("c")), str("abc")}, {each(str("a")), str("a")}, {each(none), str("")},
		{each(none, none), str("")}, {each(num(12)), str("12")},
		{each(num(1), num(-2), num(least)), str("1-2-9223372036854775808")}, {each(yes, not), str("TRUEFALSE")},
		{each(str("a"), none, str("b")), str("ab")}, {[]api.Arg{mixed(), one(str("!"))}, str("4xTRUE-92!")},
		{[]api.Arg{one(str("!")), mixed()}, str("!4xTRUE-92")}, {spans(0), str("")}, {spans(3), str("")},
		{spans(2, none, none), str("")}, {spans(1, str("b"), str("a")), str("ba")},
		{spans(2, num(1), num(2), num(3), num(4)), str("1234")},
		{each(str("\xff"), str("\x80\x00")), str("\xff\x80\x00")}, {each(str(long)), str(long)},
		{each(str(long), str("")), str(long)}, {each(none, str(long), none, str("")), str(long)},
		{each(str(long[1:]), num(7)), str(long[1:] + "7")}, {each(str(long[4:]), yes), str(long[4:] + "TRUE")},
		{each(str(long), str("x")), bad}, {each(str("x"), str(long)), bad}, {each(str(long[1:]), num(10)), bad},
		{each(str(long[4:]), not), bad}, {each(str(long), num(0), none), bad},
		{spans(2, str(long[100:]), none, str(long[101:]), num(1)), str(long[1:] + "1")},
		{spans(2, str(long[100:]), none, str(long[100:]), num(1)), bad},
		{[]api.Arg{span(1, str(long[100:])), one(str(long[100:]))}, str(long)},
		{[]api.Arg{span(1, str(long[100:])), one(str(long[100:])), span(1, str("x"))}, bad},
		{each(str(strings.Repeat("é", 99)), str("é")), str(strings.Repeat("é", 100))},
		{each(str(strings.Repeat("é", 100)), str("e")), bad}, {each(str(long), str(long), no(api.EDiv)), no(api.EDiv)},
		{each(no(api.ERef), str(long), str(long)), no(api.ERef)},
		{spans(1, str(long), no(api.ENum), str(long), no(api.EValue)), no(api.ENum)},
	})
	expect(t, "CONCAT", slices.Repeat(each(str("y")), api.MaxResult), str(strings.Repeat("y", api.MaxResult)))
	expect(t, "CONCAT", slices.Repeat(each(str("y")), api.MaxResult+1), bad)
}

func TestIsErr(t *testing.T) {
	for _, e := range allErrors() {
		expect(t, "ISERR", each(e), yes)
		expect(t, "ISERR", spans(1, e), no(api.EValue))
	}
	for _, v := range []api.Val{none, num(0), num(api.EValue), num(-1), yes, not, str(""), str("#NUM!"), str("x")} {
		expect(t, "ISERR", each(v), not)
	}
}

func TestRowsCols(t *testing.T) {
	bad := no(api.ERef)
	for _, c := range []struct {
		a          api.Arg
		rows, cols int
	}{
		{mixed(), 3, 2}, {span(1, num(5)), 1, 1}, {span(1, num(5), none, none), 3, 1},
		{span(3, num(5), none, none), 1, 3}, {span(6, mixed().Vals...), 1, 6}, {span(3, mixed().Vals...), 2, 3},
		{span(1, mixed().Vals...), 6, 1}, {span(0), 0, 0}, {span(1), 0, 1}, {span(3), 0, 3},
		{span(1, bad, bad, bad), 3, 1}, {span(2, none, bad), 1, 2}, {span(12, make([]api.Val, 12*24)...), 24, 12},
		{span(1, none), 1, 1}, {span(2, none, none, none, none), 2, 2},
	} {
		expect(t, "ROWS", []api.Arg{c.a}, num(c.rows))
		expect(t, "COLS", []api.Arg{c.a}, num(c.cols))
	}
	for _, name := range []string{"ROWS", "COLS"} {
		for _, v := range append(allErrors(), none, num(1), str(""), yes) {
			expect(t, name, each(v), no(api.EValue))
		}
	}
}
