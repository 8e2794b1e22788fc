package code

import (
	"bytes"
	"encoding/binary"
	"math"
	"runtime"
	"slices"
	"strings"
	"testing"
)

// sample makes n bytes in no plain order, small ones and great ones.
func sample(seed, n int) []byte {
	b := make([]byte, n)
	x := uint32(seed) + 1
	for i := range b {
		x = x*1664525 + 1013904223
		b[i] = byte(x >> 24)
		if x>>16&3 != 0 {
			b[i] &= 3
		}
	}
	return b
}

// numbers are those around each length that a Put can have, and some in between.
func numbers() []int {
	l := []int{0, 1, 2, 63, 64, 65, 300, 1000, 65535, 123456789, math.MaxInt - 1, math.MaxInt}
	for bit := 1; bit < 63; bit++ {
		n := 1 << bit
		l = append(l, n-1, n, n+1, n+n/3)
	}
	return l
}

// lists are lists of texts of all kinds of lengths.
func lists() [][]string {
	long := make([]string, 300)
	for i := range long {
		long[i] = string(sample(i, i%140))
	}
	return [][]string{nil, {}, {""}, {"", "", ""}, {"a"}, {"a", "", "bc"}, {"\x00", "\x80\xff", "ä€"}, {"\x01a"},
		{strings.Repeat("x", 127)}, {strings.Repeat("y", 128), "z"}, {"", strings.Repeat("z", 16384)},
		slices.Repeat([]string{""}, 128), long}
}

// short is the beginning of b, for messages.
func short(b []byte) []byte {
	return b[:min(len(b), 40)]
}

// around lays bytes ahead of b and behind it, and tells where b begins.
func around(b []byte) (laid [][]byte, at []int) {
	for _, ahead := range []string{"", "\x00", "\x80", "\xff\xff", "\x05abc"} {
		for _, behind := range []string{"", "\x00", "\x01", "\x80", "\xff\xff\xff"} {
			laid = append(laid, slices.Concat([]byte(ahead), b, []byte(behind)))
			at = append(at, len(ahead))
		}
	}
	return laid, at
}

// theirs reads a number by the library of Go, which is less strict.
func theirs(b []byte, at int) (int, int, bool) {
	if at < 0 || at > len(b) {
		return 0, 0, false
	}
	n, size := binary.Uvarint(b[at:])
	if size < 1 || size > 9 || size > 1 && b[at+size-1] == 0 {
		return 0, 0, false
	}
	return int(n), at + size, true
}

// theirText reads a text by what theirs tells.
func theirText(b []byte, at int) (string, int, bool) {
	n, at, ok := theirs(b, at)
	if !ok || len(b)-at < n {
		return "", 0, false
	}
	return string(b[at : at+n]), at + n, true
}

// theirList reads a list by what theirs tells.
func theirList(b []byte, at int) ([]string, int, bool) {
	n, at, ok := theirs(b, at)
	if !ok {
		return nil, 0, false
	}
	var l []string
	for ; n > 0; n-- {
		var s string
		if s, at, ok = theirText(b, at); !ok {
			return nil, 0, false
		}
		l = append(l, s)
	}
	return l, at, true
}

// check holds what is told of b at a place against what is told by the library of Go, and against Put (2.2).
func check(t *testing.T, b []byte, at int) {
	t.Helper()
	n, next, ok := Get(b, at)
	if n2, next2, ok2 := theirs(b, at); n != n2 || next != next2 || ok != ok2 {
		t.Fatalf("2.1: Get(%v, %d): %d, %d, %v", short(b), at, n, next, ok)
	}
	if ok && !bytes.Equal(Put(n), b[at:next]) {
		t.Fatalf("2.2: Get(%v, %d): %d", short(b), at, n)
	}
	s, next, ok := GetText(b, at)
	if s2, next2, ok2 := theirText(b, at); s != s2 || next != next2 || ok != ok2 {
		t.Fatalf("2.1: GetText(%v, %d): %.40q, %d, %v", short(b), at, s, next, ok)
	}
	if ok && !bytes.Equal(PutText(s), b[at:next]) {
		t.Fatalf("2.2: GetText(%v, %d): %.40q", short(b), at, s)
	}
	l, next, ok := GetList(b, at)
	if l2, next2, ok2 := theirList(b, at); !slices.Equal(l, l2) || next != next2 || ok != ok2 {
		t.Fatalf("2.1: GetList(%v, %d): %d texts, %d, %v", short(b), at, len(l), next, ok)
	}
	if ok && !bytes.Equal(PutList(l), b[at:next]) {
		t.Fatalf("2.2: GetList(%v, %d): %d texts", short(b), at, len(l))
	}
}

// none expects that none of the three is there.
func none(t *testing.T, b []byte, at int) {
	t.Helper()
	if n, next, ok := Get(b, at); n != 0 || next != 0 || ok {
		t.Errorf("2.1: Get(%v, %d): %d, %d, %v", short(b), at, n, next, ok)
	}
	noneOfTexts(t, b, at)
}

// noneOfTexts expects that neither a text nor a list is there.
func noneOfTexts(t *testing.T, b []byte, at int) {
	t.Helper()
	if s, next, ok := GetText(b, at); s != "" || next != 0 || ok {
		t.Errorf("2.1: GetText(%v, %d): %.40q, %d, %v", short(b), at, s, next, ok)
	}
	if l, next, ok := GetList(b, at); len(l) != 0 || next != 0 || ok {
		t.Errorf("2.1: GetList(%v, %d): %d texts, %d, %v", short(b), at, len(l), next, ok)
	}
}

// 2.1: Put's bytes, written out.
func TestPutKnown(t *testing.T) {
	cases := []struct {
		n    int
		want []byte
	}{
		{0, []byte{0}}, {1, []byte{1}}, {64, []byte{64}}, {127, []byte{127}}, {128, []byte{128, 1}},
		{129, []byte{129, 1}}, {255, []byte{255, 1}}, {256, []byte{128, 2}}, {300, []byte{172, 2}},
		{16383, []byte{255, 127}}, {16384, []byte{128, 128, 1}}, {16385, []byte{129, 128, 1}},
		{1 << 56, []byte{128, 128, 128, 128, 128, 128, 128, 128, 1}},
		{math.MaxInt, []byte{255, 255, 255, 255, 255, 255, 255, 255, 127}},
		{-1, nil}, {-127, nil}, {-128, nil}, {-300, nil}, {math.MinInt, nil}, {math.MinInt + 1, nil},
	}
	for _, c := range cases {
		if b := Put(c.n); !bytes.Equal(b, c.want) {
			t.Errorf("2.1: Put(%d): %v", c.n, short(b))
		}
	}
}

// 2.1: seven bits a byte, the highest bit of each but the last one, no more bytes than it takes.
func TestPutShape(t *testing.T) {
	for _, n := range numbers() {
		b := Put(n)
		size, sum := 1, 0
		for m := n; m > 127; m /= 128 {
			size++
		}
		for i, c := range b {
			sum += int(c&127) << (7 * i)
			if c >= 128 != (i < len(b)-1) {
				t.Errorf("2.1: Put(%d): %v", n, short(b))
			}
		}
		if len(b) != size || sum != n || !bytes.Equal(b, binary.AppendUvarint(nil, uint64(n))) {
			t.Errorf("2.1: Put(%d): %v", n, short(b))
		}
	}
}

// 2.1, 2.2: numbers, whatever stands ahead and behind.
func TestGetOfPut(t *testing.T) {
	for _, n := range numbers() {
		b := Put(n)
		laid, at := around(b)
		for i := range laid {
			got, next, ok := Get(laid[i], at[i])
			if got != n || next != at[i]+len(b) || !ok {
				t.Errorf("2.2: Get(%v, %d): %d, %d, %v", short(laid[i]), at[i], got, next, ok)
			}
		}
		for k := range b {
			none(t, b[:k], 0)
			none(t, slices.Concat([]byte{1, 7}, b[:k]), 2)
		}
	}
}

// 2.1: a place that there is not; it never counts from the end.
func TestNoPlace(t *testing.T) {
	for _, b := range [][]byte{nil, {}, {0}, {1}, {1, 0}, {0, 0, 0}, {2, 1, 1}, make([]byte, 100)} {
		for _, at := range []int{-1, -2, -3, -len(b) - 1, math.MinInt, math.MinInt + 1,
			len(b), len(b) + 1, len(b) + 2, math.MaxInt - 8, math.MaxInt} {
			none(t, b, at)
		}
	}
	spare := append(make([]byte, 0, 10), 3)
	none(t, spare, 1)
	none(t, spare[:0], 0)
	none(t, spare[:1], 5)
}

// 2.1: bytes without an end, more than nine bytes, a last byte of 0 that is not the first.
func TestGetWrong(t *testing.T) {
	for size := 1; size < 14; size++ {
		for _, c := range []byte{128, 129, 255} {
			b := bytes.Repeat([]byte{c}, size)
			none(t, b, 0)
			none(t, append(slices.Clone(b), 0), 0)
			for _, last := range []byte{1, 2, 64, 127} {
				whole := append(slices.Clone(b), last)
				n, next, ok := Get(whole, 0)
				if size >= 9 {
					none(t, whole, 0)
				} else if n < 1<<(7*size) || next != size+1 || !ok {
					t.Errorf("2.1: Get(%v, 0): %d, %d, %v", short(whole), n, next, ok)
				}
			}
		}
	}
	none(t, []byte{128, 128, 128, 128, 128, 128, 128, 128, 128, 0}, 0)
	none(t, []byte{9, 128, 0}, 1)
	if n, next, ok := Get([]byte{128, 0}, 1); n != 0 || next != 2 || !ok {
		t.Error("2.1: 0 behind what is no number", n, next, ok)
	}
}

// 2.1: PutText's and PutList's bytes, written out.
func TestPutTextsKnown(t *testing.T) {
	for s, want := range map[string]string{"": "\x00", "xy": "\x02xy", "\x00": "\x01\x00", "ä": "\x02\xc3\xa4",
		strings.Repeat("a", 127): "\x7f" + strings.Repeat("a", 127),
		strings.Repeat("a", 128): "\x80\x01" + strings.Repeat("a", 128),
		strings.Repeat("a", 300): "\xac\x02" + strings.Repeat("a", 300)} {
		if b := PutText(s); string(b) != want {
			t.Errorf("2.1: PutText(%.40q): %v", s, short(b))
		}
	}
	for want, l := range map[string][]string{"\x00": {}, "\x01\x00": {""}, "\x03\x01a\x00\x02bc": {"a", "", "bc"},
		"\x02\x00\x00":                            {"", ""},
		"\x80\x01" + strings.Repeat("\x00", 128):  slices.Repeat([]string{""}, 128),
		"\x01\xac\x02" + strings.Repeat("a", 300): {strings.Repeat("a", 300)}} {
		if b := PutList(l); string(b) != want {
			t.Errorf("2.1: PutList(%d texts): %v", len(l), short(b))
		}
	}
	if b := PutList(nil); !bytes.Equal(b, []byte{0}) {
		t.Errorf("2.1: PutList(nil): %v", short(b))
	}
}

// 2.1, 2.2: texts, whatever stands ahead and behind, and texts that are cut.
func TestGetTextOfPutText(t *testing.T) {
	for _, l := range lists() {
		for _, s := range l {
			b := PutText(s)
			laid, at := around(b)
			for i := range laid {
				got, next, ok := GetText(laid[i], at[i])
				if got != s || next != at[i]+len(b) || !ok {
					t.Errorf("2.2: GetText(%v, %d): %.40q, %d, %v", short(laid[i]), at[i], got, next, ok)
				}
			}
			for k := range b {
				if got, next, ok := GetText(b[:k], 0); got != "" || next != 0 || ok {
					t.Errorf("2.1: GetText(%v, 0): %.40q, %d, %v", short(b[:k]), got, next, ok)
				}
			}
		}
	}
}

// 2.1, 2.2: lists, whatever stands ahead and behind, and lists that are cut.
func TestGetListOfPutList(t *testing.T) {
	for _, l := range lists() {
		b := PutList(l)
		laid, at := around(b)
		for i := range laid {
			got, next, ok := GetList(laid[i], at[i])
			if !slices.Equal(got, l) || next != at[i]+len(b) || !ok {
				t.Errorf("2.2: GetList(%v, %d): %d texts, %d, %v", short(laid[i]), at[i], len(got), next, ok)
			}
		}
		for k := range b {
			if got, next, ok := GetList(b[:k], 0); len(got) != 0 || next != 0 || ok {
				t.Fatalf("2.1: GetList(%v, 0): %d texts, %d, %v", short(b[:k]), len(got), next, ok)
			}
		}
	}
}

// 2.1: one behind the other, each read from where the one ahead of it ends.
func TestOneBehindTheOther(t *testing.T) {
	b := slices.Concat(Put(300), PutText("bc"), PutList([]string{"", "d"}), Put(0), PutText(""), PutList(nil))
	n, at, ok := Get(b, 0)
	s, at, ok2 := GetText(b, at)
	l, at, ok3 := GetList(b, at)
	if n != 300 || s != "bc" || !slices.Equal(l, []string{"", "d"}) || !ok || !ok2 || !ok3 {
		t.Error("2.1:", n, s, l, at)
	}
	n, at, ok = Get(b, at)
	s, at, ok2 = GetText(b, at)
	l, at, ok3 = GetList(b, at)
	if n != 0 || s != "" || len(l) != 0 || at != len(b) || !ok || !ok2 || !ok3 {
		t.Error("2.1:", n, s, l, at)
	}
}

// 2.1: a length of more than there is, by one or beyond all, and numbers that are none.
func TestTextsWrong(t *testing.T) {
	for _, n := range []int{1, 2, 127, 128, 16384, 1 << 20, 1 << 31, 1 << 40, math.MaxInt - 1, math.MaxInt} {
		noneOfTexts(t, Put(n), 0)
		noneOfTexts(t, append(Put(n), make([]byte, min(n, 1000)-1)...), 0)
		noneOfTexts(t, append([]byte{1}, append(Put(n), make([]byte, min(n, 1000)-1)...)...), 1)
		inner := slices.Concat([]byte{2, 1, 'a'}, Put(n), make([]byte, min(n, 1000)-1))
		if l, next, ok := GetList(inner, 0); len(l) != 0 || next != 0 || ok {
			t.Errorf("2.1: GetList(%v, 0): %d texts, %d, %v", short(inner), len(l), next, ok)
		}
	}
	for _, b := range []string{"\x81\x00a", "\x82\x80\x00ab", "\x80", "\xff\xff", "\x80\x00"} {
		noneOfTexts(t, []byte(b), 0)
		inner := []byte("\x02\x01a" + b)
		if l, next, ok := GetList(inner, 0); len(l) != 0 || next != 0 || ok {
			t.Errorf("2.1: GetList(%v, 0): %d texts, %d, %v", short(inner), len(l), next, ok)
		}
	}
	spare := append(make([]byte, 0, 10), 2, 0)
	noneOfTexts(t, spare, 0)
}

// 2.1, 2.2: all short rows of bytes that say much, at all places.
func TestAllShort(t *testing.T) {
	some := []byte{0, 1, 2, 3, 127, 128, 129, 130, 255}
	rows := [][]byte{nil}
	for i := 0; i < len(rows); i++ {
		b := rows[i]
		for at := -1; at <= len(b)+1; at++ {
			check(t, b, at)
		}
		if len(b) == 5 {
			continue
		}
		for _, c := range some {
			rows = append(rows, append(slices.Clone(b), c))
		}
	}
	for i := 0; i < 1<<16; i++ {
		check(t, []byte{byte(i), byte(i >> 8)}, 0)
	}
}

// 2.1, 2.2: any bytes at all at any place.
func TestAnyBytes(t *testing.T) {
	for seed := 0; seed < 3000; seed++ {
		b := sample(seed, seed%70)
		for at := -1; at <= len(b)+1; at++ {
			check(t, b, at)
		}
	}
}

// R3: what is handed in is neither changed nor kept.
func TestHandedIn(t *testing.T) {
	list := []string{"a", "bc", "def"}
	PutList(list)
	if !slices.Equal(list, []string{"a", "bc", "def"}) {
		t.Error("R3: a list was changed")
	}
	b := append(make([]byte, 0, 50), PutList(list)...)
	Get(b, 0)
	s, _, _ := GetText(b, 1)
	l, _, _ := GetList(b, 0)
	if !bytes.Equal(b, PutList(list)) || !bytes.Equal(b[len(b):cap(b)], make([]byte, cap(b)-len(b))) {
		t.Error("R3: bytes were changed")
	}
	clear(b[:cap(b)])
	if s != "a" || !slices.Equal(l, []string{"a", "bc", "def"}) {
		t.Error("R3: bytes were kept", s, l)
	}
}

// R3: what is told is new memory, spare room too.
func TestNewMemory(t *testing.T) {
	list := []string{"a", "bc"}
	for _, put := range []func() []byte{
		func() []byte { return Put(0) }, func() []byte { return Put(300) }, func() []byte { return Put(-1) },
		func() []byte { return PutText("") }, func() []byte { return PutText("xyz") },
		func() []byte { return PutList(nil) }, func() []byte { return PutList(list) },
	} {
		first, second := put(), put()
		want := slices.Clone(second)
		full := first[:cap(first)]
		for i := range full {
			full[i] = 99
		}
		if !bytes.Equal(second, want) || !bytes.Equal(put(), want) {
			t.Error("R3: memory is shared:", want, second)
		}
	}
	b := PutList(list)
	first, _, _ := GetList(b, 0)
	second, _, _ := GetList(b, 0)
	clear(first[:cap(first)])
	third, _, _ := GetList(b, 0)
	if !slices.Equal(second, list) || !slices.Equal(third, list) || list[0] != "a" {
		t.Error("R3: lists share memory:", second, third)
	}
}

// R1: a number of texts alone takes no room.
func TestNumberAlone(t *testing.T) {
	b := append(Put(1<<20), bytes.Repeat([]byte{255}, 1<<20)...)
	var ahead, behind runtime.MemStats
	runtime.ReadMemStats(&ahead)
	l, next, ok := GetList(b, 0)
	runtime.ReadMemStats(&behind)
	if used := behind.TotalAlloc - ahead.TotalAlloc; used > 1<<16 || len(l) != 0 || next != 0 || ok {
		t.Error("R1: bytes for a list that is none:", used, len(l), next, ok)
	}
}

// R1: as many texts as bytes.
func TestManyTexts(t *testing.T) {
	l := slices.Repeat([]string{""}, 1<<20)
	got, next, ok := GetList(PutList(l), 0)
	if !slices.Equal(got, l) || next != 3+1<<20 || !ok {
		t.Error("2.2:", len(got), next, ok)
	}
}
