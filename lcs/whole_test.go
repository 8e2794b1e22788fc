package lcs

import (
	"slices"
	"strings"
	"testing"
)

// 15.1, 15.2: all small rows of few letters, each beside each other one, the letters as texts of several kinds.
func TestAllSmall(t *testing.T) {
	for _, c := range []struct{ letters, length int }{{1, 12}, {2, 7}, {3, 5}, {4, 4}, {5, 3}} {
		l := words(c.letters, c.length)
		known := common(l)
		for i, of := range [][]string{{"a", "b", "c", "d", "e"}, {"", "A", "a", "\xff", "AA"}} {
			rows := map[word][]string{}
			for _, w := range l {
				rows[w] = w.texts(of)
			}
			for _, v := range l {
				for _, w := range l {
					x, y := theirSmall(v, w, known)
					checkBy(t, rows[v], rows[w], x, y, known[[2]word{v, w}])
					if i == 0 && theirLong(rows[v], rows[w]) != known[[2]word{v, w}] {
						t.Fatalf("the two other ways tell unlike things of %q and %q", v, w)
					}
				}
			}
		}
	}
}

// theirSmall tells the places of two words, by what is known of all of them.
func theirSmall(v, w word, known map[[2]word]int) (x, y []int) {
	return theirPairs(strings.Split(string(v), ""), strings.Split(string(w), ""), func(a, b []string) int {
		return known[[2]word{v[len(v)-len(a):], w[len(w)-len(b):]}]
	})
}

// 15.1, 15.2: rows of any size, of few texts and of many.
func TestAny(t *testing.T) {
	d := dice(1)
	for range 250 {
		of := names("", 1+d.below(12))
		check(t, d.row(d.below(25), of), d.row(d.below(25), of))
	}
	for _, of := range []int{1, 2, 3, 10, 100, 400} {
		check(t, d.row(60+d.below(20), names("", of)), d.row(60+d.below(20), names("", of)))
	}
	for _, of := range []int{2, 30, 200} {
		check(t, d.row(200, names("", of)), d.row(200, names("", of)))
	}
}

// 15.1: one row's texts taken out, put in, changed: as when rows of a sheet are.
func TestChanged(t *testing.T) {
	d := dice(2)
	for n := range 300 {
		a := d.row(d.below(24), names("r", 1+n%30))
		b := slices.Clone(a)
		for k := range d.below(6) {
			at := d.below(len(b) + 1)
			switch {
			case d.below(3) == 0 || at == len(b):
				b = slices.Insert(b, at, name("new", k))
			case d.below(2) == 0:
				b = slices.Delete(b, at, at+1)
			default:
				b[at] = name("changed", k)
			}
		}
		check(t, a, b)
		check(t, b, a)
	}
}

// 15.1: texts dealt out between others on both sides: they alone are in common.
func TestDealtOut(t *testing.T) {
	d := dice(3)
	for range 400 {
		l := names("l", d.below(60))
		a, b := d.dealt(l, "a", len(l)+d.below(201-len(l))), d.dealt(l, "b", len(l)+d.below(201-len(l)))
		var x, y []int
		for _, text := range l {
			x, y = append(x, slices.Index(a, text)), append(y, slices.Index(b, text))
		}
		checkBy(t, a, b, x, y, len(l))
	}
}

// 15.1: a row beside itself, beside a part of itself, and both ways round.
func TestItself(t *testing.T) {
	d := dice(4)
	for n := range 201 {
		a := d.row(n, names("", 1+d.below(2*n+1)))
		checkBy(t, a, a, from(0, n), from(0, n), n)
		checkBy(t, a, slices.Clone(a), from(0, n), from(0, n), n)
		cut := d.below(n + 1)
		if Long(a, a[cut:]) != n-cut || Long(a[:cut], a) != cut {
			t.Fatalf("15.1: %q beside what is left of it at %d", a, cut)
		}
		b := d.row(d.below(201), append(a, "else"))
		if Long(a, b) != Long(b, a) {
			t.Fatalf("15.1: %q and %q: %d, turned round %d", a, b, Long(a, b), Long(b, a))
		}
	}
}

// 15.1: of two rows without a text twice, either row's order.
func TestOrders(t *testing.T) {
	d := dice(5)
	for n := range 40 {
		a := names("a", n)
		b := slices.Clone(a)
		for i := range b {
			k := i + d.below(n-i)
			b[i], b[k] = b[k], b[i]
		}
		check(t, a, b)
		check(t, b, a)
	}
}

// R1: long texts that are alike but for a byte, as many as may be: they end soon.
func TestGreat(t *testing.T) {
	long := strings.Repeat("x", 1<<20)
	a := slices.Repeat([]string{long + "a"}, 200)
	b := slices.Repeat([]string{long + "b"}, 200)
	checkBy(t, a, b, nil, nil, 0)
	a[199], b[0] = long+"c", long+"c"
	checkBy(t, a, b, []int{199}, []int{0}, 1)
	c := slices.Repeat([]string{strings.Clone(a[0])}, 200)
	checkBy(t, a, c, from(0, 199), from(0, 199), 199)
}

// 15.1: far too many texts, on either side and on both.
func TestTooMany(t *testing.T) {
	many := slices.Repeat([]string{"a"}, 1<<20)
	for _, size := range []int{0, 1, 200, 201, 255, 256, 257, 400, 456, 1 << 16, 1<<16 + 200, 1 << 20} {
		checkBy(t, many, many[:size], nil, nil, 0)
		checkBy(t, many[:size], many, nil, nil, 0)
		checkBy(t, many[:1<<16+1], many[:size], nil, nil, 0)
	}
}

// roomy tells a list like l, with spare room behind it, in which something stands.
func roomy(l []string) []string {
	return slices.Concat(l, []string{"spare", "room", "a"})[:len(l)]
}

// scribble writes into all of a list's memory, spare room too, and appends to it.
func scribble(l []int) {
	_ = append(l, 777)
	for i := range l[:cap(l)] {
		l[:cap(l)][i] = 999
	}
}

// R3: what is told is new memory, spare room too: the two lists of one answer share none, nor do two answers.
func TestApart(t *testing.T) {
	for _, c := range [][2][]string{
		{names("a", 1), names("a", 1)}, {names("a", 5), names("a", 5)}, {row("a b c d"), row("b d a c")}, {row("a b a b"), row("b a b a")}, {names("a", 200), names("a", 200)}, {nil, nil}, {row("a"), row("b")}, {names("a", 201), names("a", 201)},
	} {
		want, wantToo := theirPairs(c[0], c[1], theirLong)
		if len(c[0]) > 200 {
			want, wantToo = nil, nil
		}
		for _, scribbled := range []int{0, 1} {
			x, y := Pairs(c[0], c[1])
			second, secondToo := Pairs(c[0], c[1])
			told, kept, other := [2][]int{x, y}, [2][]int{y, x}, [2][]int{wantToo, want}
			scribble(told[scribbled])
			if !slices.Equal(kept[scribbled], other[scribbled]) {
				t.Fatalf("R3: one list written into: the other is %v, not %v", kept[scribbled], other[scribbled])
			}
			if !slices.Equal(second, want) || !slices.Equal(secondToo, wantToo) {
				t.Fatalf("R3: an answer written into: another is %v, %v", second, secondToo)
			}
			checkBy(t, c[0], c[1], want, wantToo, len(want))
		}
	}
}

// R3: what was handed in stays as it was, its spare room too, also where both rows are of one memory; what was told
// stays, whatever is written into what was handed in.
func TestUntouched(t *testing.T) {
	l := words(2, 4)
	for _, v := range l {
		for _, w := range l {
			a, b := roomy(v.texts(row("p q"))), roomy(w.texts(row("p q")))
			wasA, wasB := slices.Clone(a[:cap(a)]), slices.Clone(b[:cap(b)])
			x, y := Pairs(a, b)
			long := Long(a, b)
			if !slices.Equal(a[:cap(a)], wasA) || !slices.Equal(b[:cap(b)], wasB) {
				t.Fatalf("R3: what was handed in was %q, %q and is %q, %q", wasA, wasB, a[:cap(a)], b[:cap(b)])
			}
			keptX, keptY := slices.Clone(x), slices.Clone(y)
			for i := range a {
				a[i] = name("written", i)
			}
			clear(b[:cap(b)])
			if !slices.Equal(x, keptX) || !slices.Equal(y, keptY) {
				t.Fatalf("R3: what was handed in is written into: %v, %v", x, y)
			}
			checkBy(t, v.texts(row("p q")), w.texts(row("p q")), x, y, long)
		}
	}
	all := row("a b a c b a d a b")
	was := slices.Clone(all)
	for i := range all {
		for k := range all {
			check(t, all[i:], all[:k])
			check(t, all[:k], all[min(i, k):k])
		}
	}
	if !slices.Equal(all, was) {
		t.Errorf("R3: what was handed in was %q and is %q", was, all)
	}
}

// R1: the same calls tell the same, whatever was asked between.
func TestTwice(t *testing.T) {
	d := dice(6)
	for range 100 {
		a, b := d.row(d.below(60), names("", 5)), d.row(d.below(60), names("", 5))
		x, y := Pairs(a, b)
		long := Long(a, b)
		Pairs(b, a)
		Long(names("a", 201), b)
		checkBy(t, a, b, x, y, long)
	}
}
