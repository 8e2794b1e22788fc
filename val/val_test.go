package val

import (
	"fmt"
	"math"
	"strings"
	"testing"

	"chequer/api"
)

var (
	none = api.Val{}
	yes  = api.Val{Kind: api.VBool, N: 1}
	not  = api.Val{Kind: api.VBool}
)

func num(n int) api.Val { return api.Val{Kind: api.VInt, N: n} }

func str(s string) api.Val { return api.Val{Kind: api.VText, S: s} }

func no(n int) api.Val { return api.Val{Kind: api.VErr, N: n} }

// allNumbers are small ones, and those at the edges of 64 bits and of what goes into them when it is multiplied, and
// next to them, on both sides of nought.
func allNumbers() []int {
	var l []int
	for n := range 12 {
		l = append(l, n, -n-1)
	}
	for _, edge := range []int{1 << 31, 1 << 32, 3037000499, 1 << 62, math.MaxInt / 3, math.MaxInt - 2} {
		for d := -2; d <= 2; d++ {
			l = append(l, edge+d, -edge-d)
		}
	}
	return append(l, math.MinInt, math.MinInt+1)
}

func allTexts() []string {
	return []string{"", " ", "0", "1", "-1", "A", "AA", "AB", "B", "TRUE", "FALSE", "#NUM!", "a", "a\x00", "a ", "ab", "abc",
		"abd", "b", "z", "\x00", "\x7f", "\x80", "\xfe\xff", "\xff", "\xff\x00", "é", "日本", strings.Repeat("x", 199),
		strings.Repeat("x", 200), strings.Repeat("x", 199) + "\xff"}
}

func allErrors() []api.Val {
	return []api.Val{no(api.EValue), no(api.ENum), no(api.EDiv), no(api.ERef), no(api.EName), no(api.ECycle)}
}

// allValues are some of each kind, errors behind the others.
func allValues() []api.Val {
	l := []api.Val{none, yes, not}
	for _, n := range allNumbers() {
		l = append(l, num(n))
	}
	for _, s := range allTexts() {
		l = append(l, str(s))
	}
	return append(l, allErrors()...)
}

func allOperators() []int {
	return []int{api.NEq, api.NNe, api.NLt, api.NLe, api.NGt, api.NGe, api.NCat, api.NAdd, api.NSub, api.NMul, api.NDiv}
}

// brief tells a value of a test that failed.
func brief(v api.Val) string {
	return fmt.Sprintf("{%d %d %q}", v.Kind, v.N, v.S)
}

func expectTwo(t *testing.T, kind int, a, b, want api.Val) {
	t.Helper()
	if got := Two(kind, a, b); got != want {
		t.Errorf("7.2: Two(%d, %s, %s): %s, not %s", kind, brief(a), brief(b), brief(got), brief(want))
	}
}

func TestText(t *testing.T) {
	for _, c := range []struct {
		v    api.Val
		want string
	}{
		{none, ""}, {num(0), "0"}, {num(7), "7"}, {num(-1), "-1"}, {num(-120), "-120"}, {num(1000000), "1000000"},
		{num(math.MaxInt), "9223372036854775807"}, {num(math.MinInt), "-9223372036854775808"},
		{str(""), ""}, {str("a b"), "a b"}, {str("007"), "007"}, {str("TRUE"), "TRUE"}, {str("\x00\xff"), "\x00\xff"},
		{str(strings.Repeat("y", api.MaxResult)), strings.Repeat("y", api.MaxResult)}, {yes, "TRUE"}, {not, "FALSE"},
		{no(api.EValue), "#VALUE!"}, {no(api.ENum), "#NUM!"}, {no(api.EDiv), "#DIV0!"}, {no(api.ERef), "#REF!"},
		{no(api.EName), "#NAME!"}, {no(api.ECycle), "#CYCLE!"},
	} {
		if s := Text(c.v); s != c.want {
			t.Errorf("7.1: Text(%s): %q, not %q", brief(c.v), s, c.want)
		}
	}
}

func TestInt(t *testing.T) {
	for _, v := range allValues() {
		want, ok := 0, v.Kind == api.VNone
		if v.Kind == api.VInt {
			want, ok = v.N, true
		}
		if n, is := Int(v); n != want || is != ok {
			t.Errorf("7.1: Int(%s): %d, %t", brief(v), n, is)
		}
	}
}

func TestTruth(t *testing.T) {
	for _, c := range []struct {
		v      api.Val
		is, ok bool
	}{
		{none, false, true}, {yes, true, true}, {not, false, true}, {num(0), false, true}, {num(1), true, true},
		{num(-1), true, true}, {num(2), true, true}, {num(math.MinInt), true, true}, {num(math.MaxInt), true, true},
		{num(1 << 32), true, true}, {str(""), false, false}, {str("1"), false, false}, {str("TRUE"), false, false},
		{str("FALSE"), false, false}, {no(api.EValue), false, false}, {no(api.ENum), false, false},
		{no(api.EDiv), false, false}, {no(api.ERef), false, false}, {no(api.EName), false, false},
		{no(api.ECycle), false, false},
	} {
		if is, ok := Truth(c.v); is != c.is || ok != c.ok {
			t.Errorf("7.1: Truth(%s): %t, %t", brief(c.v), is, ok)
		}
	}
}

func TestNeg(t *testing.T) {
	for _, c := range []struct{ v, want api.Val }{
		{none, num(0)}, {num(0), num(0)}, {num(5), num(-5)}, {num(-5), num(5)}, {num(math.MaxInt), num(-math.MaxInt)},
		{num(-math.MaxInt), num(math.MaxInt)}, {num(math.MinInt), no(api.ENum)}, {yes, no(api.EValue)},
		{not, no(api.EValue)}, {str(""), no(api.EValue)}, {str("5"), no(api.EValue)},
	} {
		if got := Neg(c.v); got != c.want {
			t.Errorf("7.2: Neg(%s): %s", brief(c.v), brief(got))
		}
	}
	for _, v := range allErrors() {
		if got := Neg(v); got != v {
			t.Errorf("7.2: Neg(%s): %s", brief(v), brief(got))
		}
	}
}

func TestReckoned(t *testing.T) {
	const most, least = math.MaxInt, math.MinInt
	big := no(api.ENum)
	for _, c := range []struct {
		kind, a, b int
		want       api.Val
	}{
		{api.NAdd, 1, 2, num(3)}, {api.NAdd, -1, 1, num(0)}, {api.NAdd, most, 0, num(most)}, {api.NAdd, most, 1, big},
		{api.NAdd, 1, most, big}, {api.NAdd, most, most, big}, {api.NAdd, least, 0, num(least)},
		{api.NAdd, least, -1, big}, {api.NAdd, -1, least, big}, {api.NAdd, least, least, big},
		{api.NAdd, most - 1, 1, num(most)}, {api.NAdd, least + 1, -1, num(least)}, {api.NAdd, most, least, num(-1)},
		{api.NAdd, least, most, num(-1)}, {api.NAdd, 1 << 62, 1 << 62, big}, {api.NAdd, -1 << 62, -1 << 62, num(least)},
		{api.NSub, 5, 7, num(-2)}, {api.NSub, least, 1, big}, {api.NSub, least, 0, num(least)},
		{api.NSub, least + 1, 1, num(least)}, {api.NSub, most, -1, big}, {api.NSub, most - 1, -1, num(most)},
		{api.NSub, 0, least, big}, {api.NSub, -1, least, num(most)}, {api.NSub, least, least, num(0)},
		{api.NSub, most, least, big}, {api.NSub, least, most, big}, {api.NSub, 0, most, num(-most)},
		{api.NMul, -3, 4, num(-12)}, {api.NMul, -3, -4, num(12)}, {api.NMul, 0, least, num(0)},
		{api.NMul, least, 0, num(0)}, {api.NMul, least, 1, num(least)}, {api.NMul, 1, least, num(least)},
		{api.NMul, least, -1, big}, {api.NMul, -1, least, big}, {api.NMul, most, -1, num(-most)},
		{api.NMul, -1, most, num(-most)}, {api.NMul, 1 << 32, 1 << 31, big}, {api.NMul, 1 << 32, -1 << 31, num(least)},
		{api.NMul, -1 << 31, 1 << 32, num(least)}, {api.NMul, -1 << 32, -1 << 31, big}, {api.NMul, 1 << 32, 1 << 32, big},
		{api.NMul, least / 2, 2, num(least)}, {api.NMul, least / 2, -2, big}, {api.NMul, most/7 + 1, 7, big},
		{api.NMul, most / 7, 7, num(most)}, {api.NMul, 3037000499, 3037000499, num(9223372030926249001)},
		{api.NMul, 3037000500, 3037000500, big}, {api.NMul, 3, 6148914691236517205, big}, {api.NMul, least, least, big},
		{api.NDiv, 7, 2, num(3)}, {api.NDiv, -7, 2, num(-3)}, {api.NDiv, 7, -2, num(-3)}, {api.NDiv, -7, -2, num(3)},
		{api.NDiv, 1, 2, num(0)}, {api.NDiv, -1, 2, num(0)}, {api.NDiv, 0, 5, num(0)}, {api.NDiv, 1, 0, no(api.EDiv)},
		{api.NDiv, 0, 0, no(api.EDiv)}, {api.NDiv, least, 0, no(api.EDiv)}, {api.NDiv, least, -1, big},
		{api.NDiv, least + 1, -1, num(most)}, {api.NDiv, most, -1, num(-most)}, {api.NDiv, least, 1, num(least)},
		{api.NDiv, least, 2, num(-1 << 62)}, {api.NDiv, least, most, num(-1)}, {api.NDiv, most, least, num(0)},
		{api.NDiv, least, least, num(1)},
	} {
		expectTwo(t, c.kind, num(c.a), num(c.b), c.want)
	}
}

func TestNotReckoned(t *testing.T) {
	for _, kind := range []int{api.NAdd, api.NSub, api.NMul, api.NDiv} {
		for _, v := range []api.Val{yes, not, str(""), str("0"), str("12")} {
			for _, w := range []api.Val{none, num(0), num(-1), num(math.MinInt), yes, not, str(""), str("0")} {
				expectTwo(t, kind, v, w, no(api.EValue))
				expectTwo(t, kind, w, v, no(api.EValue))
			}
		}
	}
}

func TestJoined(t *testing.T) {
	long := strings.Repeat("x", api.MaxResult)
	for _, c := range []struct{ a, b, want api.Val }{
		{str("a"), str("b"), str("ab")}, {str("b"), str("a"), str("ba")}, {num(12), num(-3), str("12-3")},
		{num(1), yes, str("1TRUE")}, {not, str(" "), str("FALSE ")}, {none, none, str("")}, {none, num(0), str("0")},
		{num(0), none, str("0")}, {none, str(""), str("")}, {str("a"), none, str("a")}, {yes, none, str("TRUE")},
		{none, not, str("FALSE")}, {str("\xff"), str("\x80"), str("\xff\x80")}, {str(""), str(long), str(long)},
		{str(long), str(""), str(long)}, {str(long), none, str(long)}, {none, str(long), str(long)},
		{str(long[1:]), num(7), str(long[1:] + "7")}, {str(long[1:]), num(-7), no(api.EValue)},
		{num(10), str(long[1:]), no(api.EValue)}, {str(long[:150]), str(long[:50]), str(long)},
		{str(long[:150]), str(long[:51]), no(api.EValue)}, {str(long), str("x"), no(api.EValue)},
		{str("x"), str(long), no(api.EValue)}, {str(long), str(long), no(api.EValue)},
		{str(long[4:]), yes, str(long[4:] + "TRUE")}, {str(long[4:]), not, no(api.EValue)},
		{str(strings.Repeat("é", 99)), str("é"), str(strings.Repeat("é", 100))},
		{str(strings.Repeat("é", 100)), str("e"), no(api.EValue)},
	} {
		expectTwo(t, api.NCat, c.a, c.b, c.want)
	}
}

// TestErrors tells which error counts: the left one, whatever the operator, and whether there is such an operator.
func TestErrors(t *testing.T) {
	others := []api.Val{none, num(0), num(3), str(""), str("x"), yes, not}
	for _, kind := range append(allOperators(), 0, api.NNeg, 99) {
		for _, e := range allErrors() {
			for _, v := range others {
				expectTwo(t, kind, e, v, e)
				expectTwo(t, kind, v, e, e)
			}
			for _, f := range allErrors() {
				expectTwo(t, kind, e, f, e)
			}
		}
	}
}

func TestNoOperator(t *testing.T) {
	kinds := []int{math.MinInt, -1, 0, api.NDiv + 1, api.NDiv + 2, 99, 1 << 32, math.MaxInt}
	for kind := api.NNum; kind <= api.NNeg; kind++ {
		kinds = append(kinds, kind)
	}
	for _, kind := range kinds {
		for _, a := range []api.Val{none, num(1), str("x"), yes} {
			for _, b := range []api.Val{none, num(1), str("x"), yes} {
				expectTwo(t, kind, a, b, no(api.EValue))
			}
		}
	}
}

// TestAll holds each value, and each pair of values under each operator, against the other way.
func TestAll(t *testing.T) {
	l := allValues()
	for _, a := range l {
		if got := Text(a); got != theirText(a) {
			t.Errorf("7.1: Text(%s): %q", brief(a), got)
		}
		if got := Neg(a); got != theirNeg(a) {
			t.Errorf("7.2: Neg(%s): %s", brief(a), brief(got))
		}
		for _, b := range l {
			for kind := -1; kind <= api.NDiv+2; kind++ {
				expectTwo(t, kind, a, b, theirTwo(kind, a, b))
			}
		}
	}
}

// dice are numbers from a rule: the same in every run.
type dice uint64

func (d *dice) roll() int {
	*d = *d*6364136223846793005 + 1442695040888963407
	return int(*d) >> (uint64(*d) >> 40 % 61)
}

// TestRolled takes numbers of all lengths.
func TestRolled(t *testing.T) {
	d := dice(7)
	for range 100_000 {
		a, b := num(d.roll()), num(d.roll())
		for kind := api.NEq; kind <= api.NDiv; kind++ {
			expectTwo(t, kind, a, b, theirTwo(kind, a, b))
		}
	}
}

// TestBroken takes values that are none: nothing is said of them, but that a call ends.
func TestBroken(t *testing.T) {
	var l []api.Val
	for _, kind := range []int{math.MinInt, -1, 0, 1, 2, 3, 4, 5, 99, math.MaxInt} {
		for _, n := range []int{math.MinInt, -1, 0, 1, 2, 7, 99, math.MaxInt} {
			l = append(l, api.Val{Kind: kind, N: n, S: "x"}, api.Val{Kind: kind, N: n, S: strings.Repeat("x", 300)})
		}
	}
	for _, a := range l {
		Text(a)
		Int(a)
		Truth(a)
		Neg(a)
		for _, b := range l {
			for kind := -1; kind <= api.NDiv+1; kind++ {
				Two(kind, a, b)
			}
		}
	}
}
