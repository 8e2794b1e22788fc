package lcs

import "slices"

// table is two rows, a number for each text, and how long the longest list is that what is left of both from a place of
// a and one of b on has in common; the places behind the ends stand in it, too.
type table struct {
	a, b []int
	long [][]int
}

// tableOf tells that of two rows of texts; where one has too many, that of two empty ones.
func tableOf(a, b []string) *table {
	if len(a) > most || len(b) > most {
		a, b = nil, nil
	}
	n := numbers{}
	t := &table{a: each(a, n.of), b: each(b, n.of)}
	t.long = make([][]int, len(a)+1)
	for i := range t.long {
		t.long[i] = make([]int, len(b)+1)
	}
	t.fill()
	return t
}

// fill goes from the ends on: each place asks those behind it.
func (t *table) fill() {
	for i, text := range slices.Backward(t.a) {
		for j, other := range slices.Backward(t.b) {
			if text == other {
				t.long[i][j] = 1 + t.long[i+1][j+1]
			} else {
				t.long[i][j] = max(t.long[i+1][j], t.long[i][j+1])
			}
		}
	}
}

// numbers gives texts that are alike one number: long ones are gone through once, not beside each of the other row.
type numbers map[string]int

func (n numbers) of(text string) int {
	number, ok := n[text]
	if !ok {
		number = len(n)
		n[text] = number
	}
	return number
}

// each makes a new list of what is made of each text of a row.
func each(l []string, made func(string) int) []int {
	told := make([]int, len(l))
	for i, text := range l {
		told[i] = made(text)
	}
	return told
}
