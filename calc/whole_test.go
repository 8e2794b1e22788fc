package calc

import (
	"fmt"
	"slices"
	"strconv"
	"strings"
	"testing"

	"chequer/api"
	"chequer/book"
	"chequer/cell"
	"chequer/deps"
	"chequer/parse"
	"chequer/show"
)

// dice tells numbers that look like any, the same ones in every run.
type dice uint64

func (d *dice) below(n int) int {
	*d = *d*6364136223846793005 + 1442695040888963407
	return int(uint64(*d)>>33) % n
}

// anyOf tells one of some texts.
func (d *dice) anyOf(l ...string) string {
	return l[d.below(len(l))]
}

// place tells a reference without a sheet, most often within so many rows and columns.
func (d *dice) place(rows, cols int) string {
	if d.below(25) == 0 {
		return d.anyOf("A999", "ZZ1", "ZZ999", "M25", "AA10")
	}
	return d.anyOf("", "", "$") + string(rune('A'+d.below(cols+1))) + d.anyOf("", "", "$") + strconv.Itoa(1+d.below(rows+1))
}

// span tells a range without a sheet.
func (d *dice) span(rows, cols int) string {
	i, j := d.below(rows+1), d.below(cols+1)
	return string(rune('A'+j)) + strconv.Itoa(i+1) + ":" + d.anyOf("", "$") + string(rune('A'+j+d.below(3))) + strconv.Itoa(i+1+d.below(3))
}

func (d *dice) sheet() string {
	return d.anyOf("", "", "", "", "", "A!", "B!", "AB!", "a!", "TRUE!", "Nowhere!")
}

// leaf tells a formula without operators.
func (d *dice) leaf(rows, cols int) string {
	switch d.below(12) {
	case 0:
		return strconv.Itoa(d.below(7))
	case 1, 2:
		return d.anyOf("9223372036854775807", "9223372036854775807", "4611686018427387904", "3037000500", "0", "1", "2", "3")
	case 3, 4:
		return d.anyOf(`"x"`, `""`, `"5"`, `"a""b"`, `"TRUE"`, `"A1"`, `"`+strings.Repeat("y", 60)+`"`)
	case 5:
		return d.anyOf("TRUE", "FALSE", "FALSE", "#REF!")
	case 6:
		return d.sheet() + d.span(rows, cols)
	}
	return d.sheet() + d.place(rows, cols)
}

// called tells a call with as many arguments as its function takes, most often.
func (d *dice) called(rows, cols, deep int) string {
	name := d.anyOf("SUM", "MIN", "MAX", "COUNT", "AND", "OR", "IF", "IF", "NOT", "ABS", "MOD", "LEN", "LEFT", "RIGHT", "MID", "CONCAT", "ISERR", "ROWS", "COLS", "NIX")
	n := 1 + d.below(3)
	switch name {
	case "IF":
		n = 2 + d.below(2)
	case "NOT", "ABS", "LEN", "ISERR", "ROWS", "COLS":
		n = 1
	case "MOD", "LEFT", "RIGHT":
		n = 2
	case "MID":
		n = 3
	}
	if d.below(15) == 0 {
		n = d.below(5)
	}
	l := make([]string, n)
	for i := range l {
		l[i] = d.expr(rows, cols, deep-1)
		if d.below(4) == 0 || strings.Contains("ROWS COLS", name) && d.below(5) > 0 {
			l[i] = d.sheet() + d.span(rows, cols)
		}
	}
	return name + "(" + strings.Join(l, ",") + ")"
}

// expr tells a formula of any kind, so deep.
func (d *dice) expr(rows, cols, deep int) string {
	if deep == 0 || d.below(3) == 0 {
		return d.leaf(rows, cols)
	}
	switch d.below(6) {
	case 0, 1:
		return d.called(rows, cols, deep)
	case 2:
		return "-(" + d.expr(rows, cols, deep-1) + ")"
	}
	sign := d.anyOf("=", "<>", "<", "<=", ">", ">=", "&", "&", "+", "+", "-", "*", "/")
	return "(" + d.expr(rows, cols, deep-1) + ")" + sign + "(" + d.expr(rows, cols, deep-1) + ")"
}

// formula tells the text of one that a cell may have.
func (d *dice) formula(rows, cols, deep int) string {
	for {
		l, e := parse.Parse(d.expr(rows, cols, deep))
		if s := "=" + show.Print(l); e == api.OK && cell.May(s) {
			return s
		}
	}
}

// text tells a cell's text: a formula in so many of ten.
func (d *dice) text(rows, cols, often int) string {
	if d.below(10) < often {
		return d.formula(rows, cols, 1+d.below(3))
	}
	return d.anyOf("", "", "5", "-7", "0", "1", "2", "9223372036854775807", "-9223372036854775808", "'x", "'=A1", "'", "'7", "'"+strings.Repeat("z", 150), "'"+strings.Repeat("z", 201))
}

// book tells one that may be, with formulas in so many of ten cells.
func (d *dice) book(sheets, rows, cols, often int) api.Book {
	var b api.Book
	names := []string{"A", "AB", "B", "TRUE", "a"}
	for len(names) > sheets {
		at := d.below(len(names))
		names = slices.Delete(names, at, at+1)
	}
	for _, name := range names {
		s := api.Sheet{Name: name, Cols: d.below(cols + 1)}
		for range d.below(rows + 1) {
			row := make([]string, s.Cols)
			for j := range row {
				row[j] = d.text(rows, cols, often)
			}
			s.Rows = append(s.Rows, row)
		}
		b.Sheets = append(b.Sheets, s)
	}
	return b
}

// 14.2, 14.3: books of any kind.
func TestAny(t *testing.T) {
	d := dice(1)
	kinds, errors := [5]int{}, [7]int{}
	for range 6000 {
		b := d.book(1+d.below(4), 1+d.below(5), 1+d.below(5), 1+d.below(9))
		check(t, b)
		order, cyclic := deps.Order(b)
		vals := Values(b)
		for _, s := range append(order, cyclic...) {
			v := vals[book.Find(b, s.Sheet)][s.Row][s.Col]
			kinds[v.Kind]++
			if v.Kind == api.VErr {
				errors[v.N]++
			}
		}
	}
	for kind, n := range kinds {
		if n < 500 {
			t.Error("too few of one kind", kind, n)
		}
	}
	for e, n := range errors[1:] {
		if n < 25 {
			t.Error("too few of one error", e+1, n)
		}
	}
}

// values tells any that there may be, laid out as a book is.
func (d *dice) values(b api.Book) [][][]api.Val {
	vals := make([][][]api.Val, len(b.Sheets))
	for i, s := range b.Sheets {
		vals[i] = make([][]api.Val, len(s.Rows))
		for j := range s.Rows {
			vals[i][j] = make([]api.Val, len(s.Rows[j]))
			for k := range vals[i][j] {
				vals[i][j][k] = d.value()
			}
		}
	}
	return vals
}

func (d *dice) value() api.Val {
	switch d.below(8) {
	case 0:
		return none
	case 1:
		return str(d.anyOf("", "x", "5", strings.Repeat("z", 200)))
	case 2:
		return bin(d.below(2) == 1)
	case 3:
		if d.below(2) == 0 {
			return no(1 + d.below(6))
		}
	case 4:
		return num([]int{most, least, most / 2, 1 << 32}[d.below(4)])
	}
	return num(d.below(9) - 3)
}

// 14.1: any formulas beside any values, on sheets that there are and that there are not.
func TestAnyEval(t *testing.T) {
	d := dice(2)
	for range 1500 {
		b := d.book(1+d.below(4), 4, 4, 0)
		vals := d.values(b)
		for range 30 {
			s := d.formula(4, 4, 1+d.below(4))[1:]
			own := d.anyOf("A", "AB", "B", "TRUE", "a", "", "X")
			want := theirEval(s, own, b, func(at api.Spot) api.Val {
				return vals[book.Find(b, at.Sheet)][at.Row][at.Col]
			})
			if got := Eval(nodes(t, s), own, b, vals); got != want {
				t.Fatalf("14.1: %s on %q of\n%s%v: %s, not %s", s, own, dump(b), vals, told(got), told(want))
			}
		}
	}
}

// 14.2: three cells, each in need of some of the three by references and within ranges: some of all there are.
func TestManyOfThree(t *testing.T) {
	parts := []string{"+A1", "+B1", "+A2", "+SUM(A1:B1)", "+COUNT(A1:A2)", "+ISERR(A1:B2)"}
	for n := range 64 * 64 * 64 {
		if n%67 > 0 {
			continue
		}
		var l []string
		for _, needs := range []int{n % 64, n / 64 % 64, n / 4096} {
			s := "=1"
			for i, part := range parts {
				if needs>>i&1 == 1 {
					s += part
				}
			}
			l = append(l, s)
		}
		check(t, made(table("A", l[0]+"|"+l[1], l[2]+"|8")))
	}
}

// roomyBook tells a book like b whose lists all have spare room with something in it.
func roomyBook(b api.Book) api.Book {
	sheets := append(slices.Clone(b.Sheets), api.Sheet{Name: "spare"})
	for i := range b.Sheets {
		rows := append(slices.Clone(sheets[i].Rows), []string{"spare"})
		for j := range sheets[i].Rows {
			row := append(slices.Clone(rows[j]), "=A1")
			rows[j] = row[:len(row)-1]
		}
		sheets[i].Rows = rows[:len(rows)-1]
	}
	return api.Book{Sheets: sheets[:len(sheets)-1]}
}

func roomyValues(vals [][][]api.Val) [][][]api.Val {
	l := append(slices.Clone(vals), [][]api.Val{{num(77)}})
	for i := range vals {
		rows := append(slices.Clone(vals[i]), []api.Val{num(78)})
		for j := range vals[i] {
			row := append(slices.Clone(vals[i][j]), num(79))
			rows[j] = row[:len(row)-1]
		}
		l[i] = rows[:len(rows)-1]
	}
	return l[:len(l)-1]
}

func roomyNodes(l []api.Node) []api.Node {
	told := append(slices.Clone(l), leaf(99))
	for i := range l {
		kids := append(slices.Clone(l[i].Kids), 98)
		told[i].Kids = kids[:len(kids)-1]
	}
	return told[:len(told)-1]
}

// whole tells all that the memory of what is handed in has, spare room too.
func whole(l []api.Node, b api.Book, vals [][][]api.Val) string {
	var s strings.Builder
	for _, n := range l[:cap(l)] {
		fmt.Fprintf(&s, "%+v %v\n", n, n.Kids[:cap(n.Kids)])
	}
	for _, l := range b.Sheets[:cap(b.Sheets)] {
		fmt.Fprintf(&s, "%q %d %d\n", l.Name, l.Cols, len(l.Rows))
		for _, row := range l.Rows[:cap(l.Rows)] {
			fmt.Fprintf(&s, "%d %q\n", len(row), row[:cap(row)])
		}
	}
	for _, sheet := range vals[:cap(vals)] {
		for _, row := range sheet[:cap(sheet)] {
			fmt.Fprintf(&s, "%d %v\n", len(row), row[:cap(row)])
		}
	}
	return s.String()
}

// R3: what is handed in stays, spare room too, which is not looked at either.
func TestHandedInStays(t *testing.T) {
	d := dice(3)
	for range 500 {
		b := d.book(1+d.below(3), 4, 4, 6)
		vals := d.values(b)
		roomy, room := roomyBook(b), roomyValues(vals)
		was, wasVals := whole(nil, roomy, room), shown(Values(b))
		if got := shown(Values(roomy)); got != wasVals || whole(nil, roomy, room) != was {
			t.Fatalf("R3: Values of\n%s: %s, with room %s; was\n%sis\n%s", dump(b), wasVals, got, was, whole(nil, roomy, room))
		}
		for range 5 {
			l := nodes(t, d.formula(4, 4, 3)[1:])
			spare := roomyNodes(l)
			was := whole(spare, roomy, room)
			want, got := Eval(l, "A", b, vals), Eval(spare, "A", roomy, room)
			if got != want || whole(spare, roomy, room) != was {
				t.Fatalf("R3: Eval of %v: %s, with room %s; was\n%sis\n%s", l, told(want), told(got), was, whole(spare, roomy, room))
			}
		}
	}
}

// scribble writes into all of a list, spare room too, and appends to it.
func scribble(vals [][][]api.Val) {
	for i, sheet := range vals {
		for j, row := range sheet {
			_ = append(row, num(-7))
			for k := range row[:cap(row)] {
				row[:cap(row)][k] = num(-8)
			}
			vals[i][j] = nil
		}
		_ = append(sheet, []api.Val{num(-9)})
		vals[i] = nil
	}
	_ = append(vals, nil)
}

// writeBehind writes into the spare room of an answer's lists, and appends to them.
func writeBehind(vals [][][]api.Val) {
	for _, sheet := range vals {
		for _, row := range sheet {
			for k := range row[len(row):cap(row)] {
				row[len(row):cap(row)][k] = num(-8)
			}
			_ = append(row, num(-7), num(-7), num(-7))
		}
		_ = append(sheet, []api.Val{num(-9)})
	}
	_ = append(vals, nil)
}

// 14.2, R3: what is told is new memory each time; no two lists of it share any.
func TestApart(t *testing.T) {
	d := dice(4)
	for range 500 {
		b := d.book(1+d.below(4), 4, 4, 6)
		was := dump(b)
		first, second := Values(b), Values(b)
		want := shown(first)
		writeBehind(first)
		if shown(first) != want {
			t.Fatalf("R3: Values of\n%s: %s, written behind: %s", was, want, shown(first))
		}
		scribble(first)
		if shown(second) != want || shown(Values(b)) != want || dump(b) != was {
			t.Fatalf("R3: Values of\n%s: %s, written into: %s, %s", was, want, shown(second), shown(Values(b)))
		}
		for i := range second {
			for j := range second[i] {
				row := second[i][j]
				kept := slices.Clone(row)
				for k := range row {
					row[k] = no(api.EName)
				}
				others := shown(second)
				copy(row, kept)
				if strings.Count(others, "#NAME!") != strings.Count(want, "#NAME!")+len(row)-strings.Count(shown([][][]api.Val{{row}}), "#NAME!") {
					t.Fatalf("R3: Values of\n%s: two rows share memory: %s", was, others)
				}
			}
		}
	}
}

// R1: the same calls tell the same, however often they are made, and whatever was called between.
func TestAgain(t *testing.T) {
	d := dice(5)
	for range 40 {
		b := d.book(5, 6, 6, 8)
		want := shown(Values(b))
		for range 10 {
			Values(d.book(2, 3, 3, 5))
			if got := shown(Values(book.Copy(b))); got != want {
				t.Fatalf("R1: Values of\n%s: %s, then %s", dump(b), want, got)
			}
		}
	}
}

// 14.3: what one cell is changes those alone that are in need of it.
func TestOneChange(t *testing.T) {
	d := dice(6)
	for range 600 {
		b := d.book(1+d.below(3), 4, 4, 6)
		all := slices.Collect(spots(b))
		if len(all) == 0 {
			continue
		}
		s := all[d.below(len(all))]
		changed, e := book.Set(b, s, d.text(4, 4, 5))
		if e != api.OK {
			t.Fatal("no change", e)
		}
		check(t, changed)
		before, after := Values(b), Values(changed)
		reached := users(b, s)
		for _, other := range all {
			i := book.Find(b, other.Sheet)
			if !reached[other] && before[i][other.Row][other.Col] != after[i][other.Row][other.Col] {
				t.Fatalf("14.3: Values of\n%s: %v hangs on %v", dump(b), other, s)
			}
		}
	}
}

// spots goes through all cells of a book.
func spots(b api.Book) func(yield func(api.Spot) bool) {
	return func(yield func(api.Spot) bool) {
		for _, s := range b.Sheets {
			for i, row := range s.Rows {
				for j := range row {
					if !yield(api.Spot{Sheet: s.Name, Row: i, Col: j}) {
						return
					}
				}
			}
		}
	}
}

// users tells a cell and all that are in need of it, by way of others too.
func users(b api.Book, s api.Spot) map[api.Spot]bool {
	told := map[api.Spot]bool{s: true}
	for last := 0; last != len(told); {
		last = len(told)
		for other := range spots(b) {
			if slices.ContainsFunc(deps.Needs(b, other), func(need api.Spot) bool { return told[need] }) {
				told[other] = true
			}
		}
	}
	return told
}
