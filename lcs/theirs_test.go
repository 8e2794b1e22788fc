package lcs

import (
	"slices"
	"testing"
)

// What the document says of rows of texts, in another way: of small rows all parts are written out; of greater ones the
// places are laid on piles; what Pairs tells is looked for sentence by sentence, by how long the longest list is.

// theirLong tells that by piles: a's texts come in order, each goes, for each of its places in b, from the last one on,
// onto the first pile whose top is not below it.
func theirLong(a, b []string) int {
	var tops []int
	for _, text := range a {
		for j := len(b) - 1; j >= 0; j-- {
			if b[j] != text {
				continue
			}
			pile, _ := slices.BinarySearch(tops, j)
			if pile == len(tops) {
				tops = append(tops, j)
			}
			tops[pile] = j
		}
	}
	return len(tops)
}

// theirPairs tells the places; long tells how long the longest list is that two rows have in common.
func theirPairs(a, b []string, long func(a, b []string) int) (x, y []int) {
	i, j := 0, 0
	for i < len(a) && j < len(b) {
		withoutA, withoutB := long(a[i+1:], b[j:]), long(a[i:], b[j+1:])
		if a[i] == b[j] {
			x, y = append(x, i), append(y, j)
			i, j = i+1, j+1
		} else if withoutB > withoutA {
			j++
		} else {
			i++
		}
	}
	return x, y
}

// word is a row of letters, which stand for texts.
type word string

// words tells all those of the first so many letters, up to a length, shorter ones first.
func words(letters, length int) []word {
	l := []word{""}
	for from := 0; length > 0; length-- {
		to := len(l)
		for _, w := range l[from:to] {
			for k := range letters {
				l = append(l, w+word(rune('a'+k)))
			}
		}
		from = to
	}
	return l
}

// parts tells all that are left of a word when letters are taken out, the word itself among them.
func (w word) parts() map[word]bool {
	if w == "" {
		return map[word]bool{"": true}
	}
	told := map[word]bool{}
	for part := range w[1:].parts() {
		told[part], told[w[:1]+part] = true, true
	}
	return told
}

// common tells of each word beside each other one how long the longest part is that both have.
func common(l []word) map[[2]word]int {
	parts := map[word]map[word]bool{}
	for _, w := range l {
		parts[w] = w.parts()
	}
	told := map[[2]word]int{}
	for _, v := range l {
		for _, w := range l {
			long := 0
			for part := range parts[v] {
				if parts[w][part] {
					long = max(long, len(part))
				}
			}
			told[[2]word{v, w}] = long
		}
	}
	return told
}

// texts tells a word's row; of is what its letters stand for.
func (w word) texts(of []string) []string {
	var l []string
	for _, letter := range w {
		l = append(l, of[letter-'a'])
	}
	return l
}

// check expects of two rows what another way tells of them, and what follows from the promises.
func check(t *testing.T, a, b []string) {
	t.Helper()
	x, y := theirPairs(a, b, theirLong)
	checkBy(t, a, b, x, y, theirLong(a, b))
}

// checkBy expects Pairs to be x and y, Long to be long, and both to be as the promises say of each other.
func checkBy(t *testing.T, a, b []string, x, y []int, long int) {
	t.Helper()
	gotX, gotY := Pairs(a, b)
	got := Long(a, b)
	if got != long {
		t.Fatalf("15.1: Long of %.20q and %.20q: %d, not %d", a, b, got, long)
	}
	if !slices.Equal(gotX, x) || !slices.Equal(gotY, y) {
		t.Fatalf("15.1: Pairs of %.20q and %.20q: %v, %v, not %v, %v", a, b, gotX, gotY, x, y)
	}
	if len(gotX) != got || len(gotY) != got {
		t.Fatalf("15.2: Pairs of %.20q and %.20q: %v, %v: not %d", a, b, gotX, gotY, got)
	}
	if !rises(gotX, len(a)) || !rises(gotY, len(b)) {
		t.Fatalf("15.2: Pairs of %.20q and %.20q: %v, %v do not rise", a, b, gotX, gotY)
	}
	for k := range gotX {
		if a[gotX[k]] != b[gotY[k]] {
			t.Fatalf("15.1: Pairs of %.20q and %.20q: at %d and %d they are not alike", a, b, gotX[k], gotY[k])
		}
	}
}

// rises tells whether places of n do, each above the one ahead of it.
func rises(l []int, n int) bool {
	last := -1
	for _, i := range l {
		if i <= last || i >= n {
			return false
		}
		last = i
	}
	return true
}

// dice tells numbers that look like any, the same ones in every run.
type dice uint64

func (d *dice) below(n int) int {
	*d = *d*6364136223846793005 + 1442695040888963407
	return int(uint64(*d)>>33) % n
}

// row tells one of size texts, each one of those in of.
func (d *dice) row(size int, of []string) []string {
	l := make([]string, size)
	for i := range l {
		l[i] = of[d.below(len(of))]
	}
	return l
}

// dealt tells the texts of l, in order, between others, size in all; the others begin with a mark and are all unlike.
func (d *dice) dealt(l []string, mark string, size int) []string {
	var told []string
	for left := size; left > 0; left-- {
		if d.below(left) < len(l) {
			told, l = append(told, l[0]), l[1:]
		} else {
			told = append(told, name(mark, left))
		}
	}
	return told
}
