package lcs

import (
	"fmt"
	"slices"
	"strconv"
	"strings"
	"testing"
)

// name tells a text by a mark and a number.
func name(mark string, n int) string {
	return mark + strconv.Itoa(n)
}

// names tells size texts with a mark, all unlike.
func names(mark string, size int) []string {
	l := make([]string, size)
	for i := range l {
		l[i] = name(mark, i)
	}
	return l
}

// from tells the places of a list of size from the first one on.
func from(first, size int) []int {
	l := make([]int, size)
	for i := range l {
		l[i] = first + i
	}
	return l
}

// row tells one of the words of a text.
func row(s string) []string {
	return strings.Fields(s)
}

// expect wants of two rows what Pairs tells, written as `x|y`, and Long by that.
func expect(t *testing.T, a, b []string, want string) {
	t.Helper()
	check(t, a, b)
	x, y := Pairs(a, b)
	if got := plain(x) + "|" + plain(y); got != want || Long(a, b) != len(row(want[:strings.Index(want, "|")])) {
		t.Errorf("15.1: %.20q and %.20q: %s and %d, not %s", a, b, got, Long(a, b), want)
	}
}

// plain tells numbers with blanks between.
func plain(l []int) string {
	return strings.Trim(fmt.Sprint(l), "[]")
}

// pairs wants of rows, each `a|b` of words, what Pairs tells, `x|y`.
func pairs(t *testing.T, want map[string]string) {
	t.Helper()
	for rows, told := range want {
		a, b, ok := strings.Cut(rows, "|")
		if !ok {
			t.Fatal("no two rows:", rows)
		}
		expect(t, row(a), row(b), told)
	}
}

func TestExample(t *testing.T) {
	if got := Long(row("a b c"), row("b c d")); got != 2 {
		t.Error("15.1: the example:", got)
	}
	expect(t, row("a b c"), row("b c d"), "1 2|0 1")
}

// 15.1: texts in common and none; one row within the other; in another order; several times; beside itself.
func TestPairs(t *testing.T) {
	pairs(t, map[string]string{
		"a|a": "0|0", "a|b": "|", "a b|c d": "|", "a b c|d e f g": "|", "a b c|c": "2|0", "a|x a": "0|1", "a|a x": "0|0", "a|x a y": "0|1", "x a y|a": "1|0",
		"a b c|a b c": "0 1 2|0 1 2", "a a a|a a a": "0 1 2|0 1 2", "a b a|a b a": "0 1 2|0 1 2", "k l m n o p|k l m n o p": "0 1 2 3 4 5|0 1 2 3 4 5",
		"a b c|a b": "0 1|0 1", "a b c|b c": "1 2|0 1", "a b c|a c": "0 2|0 1", "a b|a b c": "0 1|0 1", "b c|a b c": "0 1|1 2", "a c|a b c": "0 1|0 2", "b|a b c": "0|1", "a b c|b": "1|0",
		"a b c|x a y b z c w": "0 1 2|1 3 5", "x a y b z c w|a b c": "1 3 5|0 1 2", "a x b y c|a b c": "0 2 4|0 1 2", "p a q b r|s a t b u": "1 3|1 3", "p p a q b|a s s b t t t": "2 4|0 3", "a p q r b|s a t b": "0 4|1 3",
		"a b c d|a x c d": "0 2 3|0 2 3", "a b c d|a b c x d": "0 1 2 3|0 1 2 4", "a b c d|b c d a": "1 2 3|0 1 2", "a b c d|d a b c": "0 1 2|1 2 3", "k l m n|k m l n": "0 2 3|0 1 3",
		"a a a|a a": "0 1|0 1", "a a|a a a": "0 1|0 1", "a a a|a": "0|0", "a|a a a": "0|0", "a b a|a": "0|0", "a a b|a b b": "0 2|0 1", "a b b|a a b": "0 2|0 2", "a b b a|b a a b": "1 3|0 1", "a b a b|b a b a": "1 2 3|0 1 2", "b a b a|a b a b": "1 2 3|0 1 2",
		"a b c a b b a|c b a b a c": "2 4 5 6|0 1 3 4", "x m j y a u z|m z j a w x u": "1 2 4 5|0 2 3 6",
	})
}

// 15.1: where a and b could both go on: a does where that is as long or longer, b where that is longer.
func TestWhichGoesOn(t *testing.T) {
	pairs(t, map[string]string{
		// As long.
		"a b|b a": "1|0", "b a|a b": "1|0", "a b c|c b a": "2|0", "a b c d|d c b a": "3|0", "x a|y a": "1|1", "x a y|p a q": "1|1", "a x b|b y a": "2|0", "x y a b|b p a": "3|0",
		"a b c d|c d a b": "2 3|0 1", "a b c d e f|e f c d a b": "4 5|0 1", "a b x c d|c d y a b": "3 4|0 1", "a b c|b a c": "1 2|0 2", "a c b|b c a": "2|0", "c a b|c b a": "0 2|0 1", "c a b d|c b a d": "0 2 3|0 1 3", "a b c d|b a d c": "1 3|0 2",
		// Longer, where a does.
		"x a|a": "1|0", "x y a|a": "2|0", "x a|a y": "1|0", "a b c|b c a": "1 2|0 1", "a b c d|b c d a": "1 2 3|0 1 2", "x a b|a b x": "1 2|0 1", "a b b|b b a": "1 2|0 1",
		// Longer, where b does.
		"a|x a": "0|1", "a|x y a": "0|2", "a b|b a b": "0 1|1 2", "a b c|c a b": "0 1|1 2", "b c d a|a b c d": "0 1 2|1 2 3", "a b x|x a b": "0 1|1 2", "a a b|b a a": "0 1|1 2", "c a b d|d c a b": "0 1 2|1 2 3",
		// One after another.
		"a b c d e|b a c e d": "1 2 4|0 2 3", "x a b y c|a b x c y": "1 2 4|0 1 3", "a x b|x a b y": "1 2|0 2", "q a b c|b c q a": "2 3|0 1", "q a b c d|b c d q a": "2 3 4|0 1 2", "b c q a|q a b c": "2 3|0 1", "b c q a d|q a d b c": "2 3 4|0 1 2", "q a b c|r b c q a": "2 3|1 2",
	})
}

// 15.1: where texts are alike both are taken, the first ones of several.
func TestAlike(t *testing.T) {
	pairs(t, map[string]string{
		"a b a|a": "0|0", "a|a b a": "0|0", "a b a|a c a": "0 2|0 2", "a b a c|a c": "0 3|0 1", "a c|a b a c": "0 1|0 3", "a a b b|a b": "0 2|0 1", "a b|a a b b": "0 1|0 2", "a b a b|a b": "0 1|0 1", "a b|a b a b": "0 1|0 1",
		"x a a|y a": "2|1", "x a|y a a": "1|1", "x a a y|p a a q": "1 2|1 2", "a x a x a|a a a": "0 2 4|0 1 2", "a a a|a x a x a": "0 1 2|0 2 4", "a b c a b c|a b c": "0 1 2|0 1 2", "a b c|a b c a b c": "0 1 2|0 1 2", "a b c a b c|c b a": "2 4|0 1", "c b a|a b c a b c": "1 2|1 3",
	})
}

// 15.1: empty rows, on either side and on both; rows of one text.
func TestShort(t *testing.T) {
	for _, none := range [][]string{nil, {}, make([]string, 0, 5), names("n", 9)[3:3]} {
		for _, l := range [][]string{nil, {}, {""}, {"a"}, {"a", "b"}, {"", ""}, names("a", 200), names("a", 201), slices.Repeat([]string{""}, 200)} {
			expect(t, none, l, "|")
			expect(t, l, none, "|")
		}
	}
	one := []string{"", "a", "b", "A", " ", "\x00", "\xff", "aa", "a\x00", strings.Repeat("a", 1<<16)}
	for i, text := range one {
		for j, other := range one {
			want := "|"
			if i == j {
				want = "0|0"
			}
			expect(t, []string{text}, []string{strings.Clone(other)}, want)
		}
	}
}

// 15.1: what texts are alike: byte by byte, empty ones as any others.
func TestTexts(t *testing.T) {
	long := strings.Repeat("x", 1<<16)
	for _, c := range []struct {
		a, b []string
		want string
	}{
		{[]string{""}, []string{""}, "0|0"}, {[]string{"", ""}, []string{""}, "0|0"}, {[]string{"", "", ""}, []string{"", ""}, "0 1|0 1"}, {[]string{"", "x"}, []string{"x", ""}, "1|0"}, {[]string{"a", "", "b"}, []string{"", "a", "b"}, "1 2|0 2"}, {[]string{"a", "", "b"}, []string{"a", "b"}, "0 2|0 1"}, {[]string{""}, []string{"a", "", "b"}, "0|1"},
		{[]string{"a"}, []string{"A"}, "|"}, {[]string{"a", "B", "c"}, []string{"A", "B", "C"}, "1|1"}, {[]string{"Abc"}, []string{"ABC", "abc", "Abc"}, "0|2"}, {[]string{"é"}, []string{"É"}, "|"}, {[]string{"k"}, []string{"\u212a"}, "|"}, {[]string{"ss"}, []string{"ß"}, "|"},
		{[]string{"ab"}, []string{"a", "b"}, "|"}, {[]string{"a", "b"}, []string{"ab"}, "|"}, {[]string{"a", ""}, []string{"", "a"}, "1|0"}, {[]string{"a b", "c"}, []string{"a", "b c"}, "|"}, {[]string{"a,b"}, []string{"a", "b"}, "|"}, {[]string{"a\x00b"}, []string{"a", "b"}, "|"}, {[]string{"a\x00", "b"}, []string{"a", "\x00b"}, "|"},
		{[]string{"a"}, []string{"a "}, "|"}, {[]string{"a"}, []string{" a"}, "|"}, {[]string{"a"}, []string{"a\x00"}, "|"}, {[]string{"a"}, []string{"aa"}, "|"}, {[]string{""}, []string{"\x00"}, "|"}, {[]string{""}, []string{" "}, "|"}, {[]string{"\t"}, []string{" "}, "|"}, {[]string{"a\n"}, []string{"a\r\n"}, "|"},
		{[]string{"1"}, []string{"01"}, "|"}, {[]string{"1"}, []string{"+1"}, "|"}, {[]string{"1.0"}, []string{"1"}, "|"}, {[]string{"0"}, []string{"-0"}, "|"}, {[]string{"'1"}, []string{"1"}, "|"},
		{[]string{"\xff"}, []string{"\xfe"}, "|"}, {[]string{"\xff"}, []string{"\ufffd"}, "|"}, {[]string{"\xff", "\xc3"}, []string{"\xc3", "\xff"}, "1|0"}, {[]string{"\xff\xfe", "\x80"}, []string{"\xff\xfe", "\x81"}, "0|0"}, {[]string{"\xc3\xa9"}, []string{"e\u0301"}, "|"}, {[]string{"\xed\xa0\x80"}, []string{"\xed\xb0\x80"}, "|"}, {[]string{"\xc0\x80"}, []string{"\x00"}, "|"},
		{[]string{long}, []string{strings.Clone(long)}, "0|0"}, {[]string{long}, []string{long[1:]}, "|"}, {[]string{long}, []string{long + "x"}, "|"}, {[]string{long + "a", long + "b"}, []string{long + "b", long + "a"}, "1|0"}, {[]string{"a" + long, "b" + long}, []string{"b" + long, "c" + long}, "1|0"}, {[]string{long + "a" + long}, []string{long + "b" + long}, "|"},
	} {
		expect(t, c.a, c.b, c.want)
	}
}

// 15.1: texts of one byte, each beside each other one, and texts that differ in one byte at each of their places.
func TestBytes(t *testing.T) {
	var l []string
	for i := range 256 {
		l = append(l, string([]byte{byte(i)}))
	}
	for i := 0; i < 256; i += 64 {
		for k := 0; k < 256; k += 64 {
			want, size := from(0, 64), 64
			if i != k {
				want, size = nil, 0
			}
			checkBy(t, l[i:i+64], slices.Clone(l[k:k+64]), want, want, size)
		}
	}
	text := []byte("some text")
	for i := range text {
		for bit := range 8 {
			other := slices.Clone(text)
			other[i] ^= 1 << bit
			expect(t, []string{string(text)}, []string{string(other)}, "|")
			expect(t, []string{string(text), string(other)}, []string{string(other), string(text)}, "1|0")
		}
	}
}

// 15.1: as many texts as may be, and one more, on either side and on both.
func TestMost(t *testing.T) {
	for _, l := range [][]string{names("a", 250), slices.Repeat([]string{"a"}, 250), slices.Repeat([]string{""}, 250)} {
		for _, size := range []int{0, 1, 2, 100, 198, 199, 200, 201, 202, 250} {
			for _, other := range []int{0, 1, 2, 100, 198, 199, 200, 201, 202, 250} {
				long := min(size, other)
				if max(size, other) > 200 {
					long = 0
				}
				checkBy(t, l[:size], slices.Clone(l[:other]), from(0, long), from(0, long), long)
			}
		}
	}
}

// 15.1: 200 texts and 201 of other kinds: none in common, turned round, moved on, alone at the other row's end.
func TestMostOthers(t *testing.T) {
	a := names("a", 200)
	turned := slices.Clone(a)
	slices.Reverse(turned)
	checkBy(t, a, turned, []int{199}, []int{0}, 1)
	checkBy(t, turned, a, []int{199}, []int{0}, 1)
	checkBy(t, a, names("b", 200), nil, nil, 0)
	checkBy(t, a, append(a[50:], a[:50]...), from(50, 150), from(0, 150), 150)
	a = names("a", 201)
	checkBy(t, a[:200], a[1:], from(1, 199), from(0, 199), 199)
	checkBy(t, a[1:], a[:200], from(0, 199), from(1, 199), 199)
	checkBy(t, a[:200], a[199:200], []int{199}, []int{0}, 1)
	checkBy(t, a[199:200], a[:200], []int{0}, []int{199}, 1)
	for _, l := range [][]string{nil, {"a0"}, {"a200"}, a[1:], a} {
		checkBy(t, a, l, nil, nil, 0)
		checkBy(t, l, a, nil, nil, 0)
	}
}
