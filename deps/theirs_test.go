package deps

import (
	"fmt"
	"regexp"
	"slices"
	"strconv"
	"strings"
	"testing"

	"chequer/api"
	"chequer/book"
	"chequer/cell"
)

// What the document says of cells and what they need, in another way: references are looked for in a formula's text, all
// cells of a book are asked one by one whether any reference names them, and an order is held against each sentence.

var (
	quoted  = regexp.MustCompile(`"([^"]|"")*"`)
	corner  = `\$?([A-Z]{1,2})\$?([1-9][0-9]{0,2})\b`
	mention = regexp.MustCompile(`(?:\b([A-Za-z][A-Za-z0-9]{0,11})!|\b|\$)` + corner + `(?::` + corner + `)?`)
	calls   = regexp.MustCompile(`[a-z0-9A-Z]+\(`)
)

// box is what a reference names, both corners within.
type box struct {
	sheet                    string
	top, left, bottom, right int
}

// number tells the place of a row's digits, of a column's letters.
func number(s string) int {
	if n, err := strconv.Atoi(s); err == nil {
		return n - 1
	}
	n := 0
	for _, c := range s {
		n = 26*n + int(c-'A') + 1
	}
	return n - 1
}

// boxes tells all that a formula on a sheet names.
func boxes(text, own string) []box {
	text = calls.ReplaceAllString(quoted.ReplaceAllString(text, `""`), "(")
	var l []box
	for _, m := range mention.FindAllStringSubmatch(text, -1) {
		x := box{m[1], number(m[3]), number(m[2]), number(m[3]), number(m[2])}
		if m[4] != "" {
			x.bottom, x.right = number(m[5]), number(m[4])
		}
		if x.sheet == "" {
			x.sheet = own
		}
		l = append(l, x)
	}
	return l
}

func (x box) has(s api.Spot) bool {
	return s.Sheet == x.sheet && s.Row >= x.top && s.Row <= x.bottom && s.Col >= x.left && s.Col <= x.right
}

// before tells whether a stands ahead of b.
func before(a, b api.Spot) bool {
	if a.Sheet != b.Sheet {
		return a.Sheet < b.Sheet
	}
	if a.Row != b.Row {
		return a.Row < b.Row
	}
	return a.Col < b.Col
}

// sorted tells the cells of a set, rising.
func sorted(set map[api.Spot]bool) []api.Spot {
	var l []api.Spot
	for s, is := range set {
		if is {
			l = append(l, s)
		}
	}
	slices.SortFunc(l, func(a, b api.Spot) int {
		if before(a, b) {
			return -1
		}
		return 1
	})
	return l
}

// texts tells all cells of a book: of sheets with one name only the first one's.
func texts(b api.Book) map[api.Spot]string {
	told := map[api.Spot]string{}
	seen := map[string]bool{}
	for _, s := range b.Sheets {
		if seen[s.Name] {
			continue
		}
		seen[s.Name] = true
		for i, row := range s.Rows {
			for j, text := range row {
				told[api.Spot{Sheet: s.Name, Row: i, Col: j}] = text
			}
		}
	}
	return told
}

// isFormula tells it of a text.
func isFormula(text string) bool {
	return strings.HasPrefix(text, "=") && cell.May(text)
}

// theirNeeds tells the cells that a formula at s names, of all cells of a book.
func theirNeeds(all map[api.Spot]string, s api.Spot) []api.Spot {
	if !isFormula(all[s]) {
		return nil
	}
	set := map[api.Spot]bool{}
	for _, x := range boxes(all[s], s.Sheet) {
		for other := range all {
			if x.has(other) {
				set[other] = true
			}
		}
	}
	return sorted(set)
}

// links tells of each cell with a formula those that it needs and that have formulas, too.
func links(b api.Book) map[api.Spot][]api.Spot {
	all := texts(b)
	told := map[api.Spot][]api.Spot{}
	for s, text := range all {
		if isFormula(text) {
			told[s] = nil
		}
	}
	for s := range told {
		told[s] = slices.DeleteFunc(theirNeeds(all, s), func(need api.Spot) bool {
			_, is := told[need]
			return !is
		})
	}
	return told
}

// reached tells all that a cell needs, and that those need, and so on: itself, too, if it is on a circle.
func reached(l map[api.Spot][]api.Spot, from api.Spot) map[api.Spot]bool {
	told := map[api.Spot]bool{}
	open := slices.Clone(l[from])
	for len(open) > 0 {
		s := open[0]
		open = open[1:]
		if !told[s] {
			told[s] = true
			open = append(open, l[s]...)
		}
	}
	return told
}

// theirOrder tells a small book's order step by step: each time all cells are asked whether they could come.
func theirOrder(l map[api.Spot][]api.Spot) (order, cyclic []api.Spot) {
	round := map[api.Spot]bool{}
	for s := range l {
		round[s] = reached(l, s)[s]
	}
	stuck, wait := map[api.Spot]bool{}, map[api.Spot]bool{}
	for s := range l {
		stuck[s] = round[s]
		for other := range reached(l, s) {
			stuck[s] = stuck[s] || round[other]
		}
		wait[s] = !stuck[s]
	}
	for len(sorted(wait)) > 0 {
		for _, s := range sorted(wait) {
			if !slices.ContainsFunc(l[s], func(need api.Spot) bool { return wait[need] }) {
				order, wait[s] = append(order, s), false
				break
			}
		}
	}
	return order, sorted(stuck)
}

// dump tells all that is in a book as one text.
func dump(b api.Book) string {
	var s strings.Builder
	for _, l := range b.Sheets {
		fmt.Fprintf(&s, "%q %d %q\n", l.Name, l.Cols, l.Rows)
	}
	return s.String()
}

// brief tells what a fault's text shows of a book.
func brief(b api.Book) string {
	s := dump(b)
	return s[:min(len(s), 2000)]
}

// check holds all that the calls tell of a book of any size against what the document says.
func check(t *testing.T, b api.Book) {
	t.Helper()
	was := dump(b)
	all := texts(b)
	for s := range all {
		if got, want := Needs(b, s), theirNeeds(all, s); !slices.Equal(got, want) {
			t.Fatalf("13.1: Needs of %v, %q, of\n%s: %v, not %v", s, all[s], was, got, want)
		}
	}
	checkOrder(t, b)
	if dump(b) != was {
		t.Fatalf("R3: what was handed in was\n%sand is\n%s", was, dump(b))
	}
}

// checkSmall holds a book's order against another way of telling it, too.
func checkSmall(t *testing.T, b api.Book) {
	t.Helper()
	check(t, b)
	order, cyclic := Order(b)
	var want, wantCyclic []api.Spot
	if book.May(b) {
		want, wantCyclic = theirOrder(links(b))
	}
	if !slices.Equal(order, want) || !slices.Equal(cyclic, wantCyclic) {
		t.Fatalf("13.2: Order of\n%s: %v and %v, not %v and %v", dump(b), order, cyclic, want, wantCyclic)
	}
}

// checkOrder holds a book's order against the sentences of 13.2 and 13.3, one by one.
func checkOrder(t *testing.T, b api.Book) {
	t.Helper()
	order, cyclic := Order(b)
	if !book.May(b) {
		if len(order) > 0 || len(cyclic) > 0 {
			t.Fatalf("13.2: Order of\n%swhich may not be: %v and %v", brief(b), order, cyclic)
		}
		return
	}
	l := links(b)
	at := map[api.Spot]int{}
	for i, s := range slices.Concat(order, cyclic) {
		at[s] = i
		if _, is := l[s]; !is {
			t.Fatalf("13.2: Order of\n%s: %v has no formula", brief(b), s)
		}
	}
	if len(order)+len(cyclic) != len(l) || len(at) != len(l) {
		t.Fatalf("13.3: Order of\n%s: %d and %d, of %d formulas", brief(b), len(order), len(cyclic), len(l))
	}
	for i, s := range cyclic {
		if i > 0 && !before(cyclic[i-1], s) {
			t.Fatalf("13.2: Order of\n%s: %v does not rise", brief(b), cyclic)
		}
		if !slices.ContainsFunc(l[s], func(need api.Spot) bool { return at[need] >= len(order) }) {
			t.Fatalf("13.2: Order of\n%s: %v could come: %v and %v", brief(b), s, order, cyclic)
		}
	}
	checkSteps(t, b, l, order, at)
}

// checkSteps holds each step of an order against those cells that could come instead.
func checkSteps(t *testing.T, b api.Book, l map[api.Spot][]api.Spot, order []api.Spot, at map[api.Spot]int) {
	t.Helper()
	for i, s := range order {
		ready := 0 // the step at which it could come
		for _, need := range l[s] {
			ready = max(ready, at[need]+1)
		}
		if ready > i {
			t.Fatalf("13.2: Order of\n%s: %v comes ahead of what it needs: %v", brief(b), s, order)
		}
		for _, other := range order[ready:i] {
			if before(s, other) {
				t.Fatalf("13.2: Order of\n%s: %v comes ahead of %v: %v", brief(b), other, s, order)
			}
		}
	}
}

// dice tells numbers that look like any, the same ones in every run.
type dice uint64

func (d *dice) below(n int) int {
	*d = *d*6364136223846793005 + 1442695040888963407
	return int(uint64(*d)>>33) % n
}

// anyOf tells one of some texts.
func (d *dice) anyOf(l ...string) string {
	return l[d.below(len(l))]
}

// place tells a reference without a sheet, most often within so many rows and columns.
func (d *dice) place(rows, cols int) string {
	if d.below(20) == 0 {
		return d.anyOf("A999", "ZZ1", "ZZ999", "M25", "AA10")
	}
	return d.anyOf("", "", "$") + string(rune('A'+d.below(min(cols+1, 26)))) + d.anyOf("", "", "$") + strconv.Itoa(1+d.below(rows+1))
}

// span tells a range without a sheet.
func (d *dice) span(rows, cols int) string {
	i, j := d.below(rows+1), d.below(min(cols+1, 26))
	to := api.Ref{Row: i + d.below(3), Col: j + d.below(3)}
	return string(rune('A'+j)) + strconv.Itoa(i+1) + ":" + string(rune('A'+min(to.Col, 25))) + strconv.Itoa(to.Row+1)
}

// part tells a part of a formula.
func (d *dice) part(rows, cols int) string {
	sheet := d.anyOf("", "", "", "A!", "B!", "AB!", "a!", "Nowhere!")
	switch d.below(8) {
	case 0:
		return d.anyOf("1", "TRUE", "#REF!", `"A1"`, `"B!A1:B2"`, `""""`, "-5", "R2D2(1)")
	case 1, 2:
		return "SUM(" + sheet + d.span(rows, cols) + "," + d.place(rows, cols) + ")"
	case 3:
		return sheet + d.span(rows, cols)
	}
	return sheet + d.place(rows, cols)
}

// text tells a cell's text: a formula of some parts in so many of ten.
func (d *dice) text(rows, cols, often int) string {
	if d.below(10) >= often {
		return d.anyOf("", "5", "-7", "'x", "'=A1", "'A1")
	}
	s := "=" + d.part(rows, cols)
	for d.below(3) == 0 {
		s += d.anyOf("+", "&", "<=", "-") + d.part(rows, cols)
	}
	return s
}

// book tells one that may be, with formulas in so many of ten cells.
func (d *dice) book(sheets, rows, cols, often int) api.Book {
	var b api.Book
	names := []string{"A", "AB", "B", "TRUE", "a"}
	for len(names) > sheets {
		at := d.below(len(names))
		names = slices.Delete(names, at, at+1)
	}
	for _, name := range names {
		s := api.Sheet{Name: name, Cols: 1 + d.below(cols)}
		for range 1 + d.below(rows) {
			row := make([]string, s.Cols)
			for j := range row {
				row[j] = d.text(rows, cols, often)
			}
			s.Rows = append(s.Rows, row)
		}
		b.Sheets = append(b.Sheets, s)
	}
	return b
}
