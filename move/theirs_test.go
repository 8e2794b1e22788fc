package move

import (
	"cmp"
	"fmt"
	"regexp"
	"slices"
	"strconv"
	"testing"

	"chequer/api"
	"chequer/cell"
	"chequer/maps"
	"chequer/parse"
	"chequer/show"
)

// What the document says of moves, in another way: a formula as a text in which each word that is a reference is written
// anew, and the places of a span as a list of those that are left.

var (
	word    = regexp.MustCompile(`"(?:[^"]|"")*"|[A-Za-z$][A-Za-z0-9$!]*(?::[A-Z0-9$]+)?`)
	place   = regexp.MustCompile(`^(?:([A-Za-z][A-Za-z0-9]{0,11})!)?(\$?)([A-Z]{1,2})(\$?)([1-9][0-9]{0,2})(?::(\$?)([A-Z]{1,2})(\$?)([1-9][0-9]{0,2}))?$`)
	columns = allColumns()
)

// allColumns tells the names of all columns, in order.
func allColumns() []string {
	var one, two []string
	for a := 'A'; a <= 'Z'; a++ {
		one = append(one, string(a))
		for b := 'A'; b <= 'Z'; b++ {
			two = append(two, string(a)+string(b))
		}
	}
	return append(one, two...)
}

// dump tells all that is in a value as one text. A nil list and an empty one are one.
func dump(v any) string {
	return fmt.Sprintf("%+v", v)
}

// left tells where the places from lo to hi are now, without those that are gone.
func left(m api.Map, lo, hi int) []int {
	var l []int
	for i := lo; i <= hi; i++ {
		if i >= len(m.To) {
			l = append(l, m.New+(i-len(m.To)))
		} else if m.To[i] >= 0 {
			l = append(l, m.To[i])
		}
	}
	return l
}

// theirShift tells the first of shifts with a sheet; false: there is none.
func theirShift(sheet, own string, shifts []api.Shift) (api.Shift, bool) {
	i := slices.IndexFunc(shifts, func(s api.Shift) bool { return s.Sheet == cmp.Or(sheet, own) })
	if i < 0 {
		return api.Shift{}, false
	}
	return shifts[i], true
}

// area is all from one corner to another one.
type area struct {
	row, col, lastRow, lastCol int
}

// theirArea tells where an area is now; false: nowhere.
func theirArea(a area, s api.Shift) (area, bool) {
	rows, cols := left(s.Rows, a.row, a.lastRow), left(s.Cols, a.col, a.lastCol)
	if s.Gone || len(rows) == 0 || len(cols) == 0 || slices.Max(rows) >= 999 || slices.Max(cols) >= 702 {
		return area{}, false
	}
	return area{slices.Min(rows), slices.Min(cols), slices.Max(rows), slices.Max(cols)}, true
}

// theirNode tells what a node of a tree is then.
func theirNode(n api.Node, own string, shifts []api.Shift) api.Node {
	s, ok := theirShift(n.Ref.Sheet, own, shifts)
	if !ok || n.Kind != 5 && n.Kind != 6 {
		return n
	}
	a := area{n.Ref.Row, n.Ref.Col, n.Ref.Row, n.Ref.Col}
	if n.Kind == 6 {
		a.lastRow, a.lastCol = n.To.Row, n.To.Col
	}
	a, ok = theirArea(a, s)
	if !ok {
		return api.Node{Kind: 4}
	}
	n.Ref.Row, n.Ref.Col = a.row, a.col
	if n.Kind == 6 {
		n.To.Row, n.To.Col = a.lastRow, a.lastCol
	}
	return n
}

// theirWord tells what a word of a formula is then.
func theirWord(w, own string, shifts []api.Shift) string {
	p := place.FindStringSubmatch(w)
	if p == nil {
		return w
	}
	s, ok := theirShift(p[1], own, shifts)
	if !ok {
		return w
	}
	a := area{number(p[5]), slices.Index(columns, p[3]), number(cmp.Or(p[9], p[5])), slices.Index(columns, cmp.Or(p[7], p[3]))}
	a, ok = theirArea(a, s)
	if !ok {
		return "#REF!"
	}
	told := p[1] + "!"
	if p[1] == "" {
		told = ""
	}
	told += p[2] + columns[a.col] + p[4] + strconv.Itoa(a.row+1)
	if p[9] != "" {
		told += ":" + p[6] + columns[a.lastCol] + p[8] + strconv.Itoa(a.lastRow+1)
	}
	return told
}

// number tells the row, of 0 on, that digits name.
func number(digits string) int {
	n, _ := strconv.Atoi(digits)
	return n - 1
}

func theirText(s, own string, shifts []api.Shift) string {
	if _, ok := cell.Formula(s); !ok {
		return s
	}
	told := word.ReplaceAllStringFunc(s, func(w string) string { return theirWord(w, own, shifts) })
	if len(told) > 300 {
		return "=#REF!"
	}
	return told
}

// same tells whether two lists of nodes are alike in all fields; a nil list and an empty one are one.
func same(a, b []api.Node) bool {
	return slices.EqualFunc(a, b, func(m, n api.Node) bool {
		return m.Kind == n.Kind && m.Num == n.Num && m.Text == n.Text && m.Ref == n.Ref && m.To == n.To && slices.Equal(m.Kids, n.Kids)
	})
}

// check holds what Nodes tells of a tree against what the document says, and what Text tells of its text.
func check(t *testing.T, l []api.Node, own string, shifts []api.Shift) {
	t.Helper()
	was, wasShifts := dump(l), dump(shifts)
	got := Nodes(l, own, shifts)
	want := slices.Clone(l)
	for i, n := range l {
		want[i] = theirNode(n, own, shifts)
	}
	if !same(got, want) || !parse.Tree(got) {
		t.Fatalf("12.1: Nodes of %s on %q by %s: %s, not %s", was, own, wasShifts, dump(got), dump(want))
	}
	checkText(t, "="+show.Print(l), own, shifts)
	if dump(l) != was || dump(shifts) != wasShifts {
		t.Fatalf("R3: what was handed in is changed: from %s and %s to %s and %s", was, wasShifts, dump(l), dump(shifts))
	}
}

// checkText holds what Text tells of a text against what the document says.
func checkText(t *testing.T, s, own string, shifts []api.Shift) {
	t.Helper()
	got, want := Text(s, own, shifts), theirText(s, own, shifts)
	if got != want {
		t.Fatalf("12.2: Text of %q on %q by %s: %q, not %q", s, own, dump(shifts), got, want)
	}
	if cell.May(s) && !cell.May(got) {
		t.Fatalf("12.2: Text of %q on %q by %s: %q, which may not be", s, own, dump(shifts), got)
	}
}

func num(n int) api.Node {
	return api.Node{Kind: 1, Num: n}
}

func quoted(s string) api.Node {
	return api.Node{Kind: 2, Text: s}
}

func truth(n int) api.Node {
	return api.Node{Kind: 3, Num: n}
}

func dead() api.Node {
	return api.Node{Kind: 4}
}

func ref(r api.Ref) api.Node {
	return api.Node{Kind: 5, Ref: r}
}

func span(r, to api.Ref) api.Node {
	return api.Node{Kind: 6, Ref: r, To: to}
}

func call(name string, kids ...int) api.Node {
	return api.Node{Kind: 7, Text: name, Kids: kids}
}

// at tells a reference without a sheet; its row comes first.
func at(row, col int) api.Ref {
	return api.Ref{Row: row, Col: col}
}

// join lays trees one behind the other, and a node behind them, which has them as its kids.
func join(n api.Node, trees ...[]api.Node) []api.Node {
	var l []api.Node
	for _, tree := range trees {
		first := len(l)
		for _, m := range tree {
			m.Kids = slices.Clone(m.Kids)
			for i := range m.Kids {
				m.Kids[i] += first
			}
			l = append(l, m)
		}
		n.Kids = append(n.Kids, len(l)-1)
	}
	return append(l, n)
}

// chart tells a map; its new places come first.
func chart(now int, to ...int) api.Map {
	return api.Map{To: to, New: now}
}

// stays is a map by which each place stays, also those behind the old ones.
func stays() api.Map {
	return api.Map{}
}

// rows and cols tell shifts of a sheet S by which only those move.
func rows(m api.Map) []api.Shift {
	return []api.Shift{{Sheet: "S", Rows: m}}
}

func cols(m api.Map) []api.Shift {
	return []api.Shift{{Sheet: "S", Cols: m}}
}

// subsets tells all rising lists of size numbers from 0 to n - 1.
func subsets(n, size int) [][]int {
	if size == 0 {
		return [][]int{nil}
	}
	if n < size {
		return nil
	}
	l := subsets(n-1, size)
	for _, s := range subsets(n-1, size-1) {
		l = append(l, append(slices.Clone(s), n-1))
	}
	return l
}

// upTo tells all maps that may be, of at most n old places and n new ones.
func upTo(n int) []api.Map {
	var l []api.Map
	for old := range n + 1 {
		for now := range n + 1 {
			for size := range old + 1 {
				l = append(l, ofSize(old, now, size)...)
			}
		}
	}
	return l
}

// ofSize tells all maps by which so many places have a new one.
func ofSize(old, now, size int) []api.Map {
	var l []api.Map
	for _, from := range subsets(old, size) {
		for _, to := range subsets(now, size) {
			m := api.Map{To: slices.Repeat([]int{-1}, old), New: now}
			for k := range size {
				m.To[from[k]] = to[k]
			}
			l = append(l, m)
		}
	}
	return l
}

// dice tells numbers that look like any, the same ones in every run.
type dice uint64

func (d *dice) below(n int) int {
	*d = *d*6364136223846793005 + 1442695040888963407
	return int(uint64(*d)>>33) % n
}

func (d *dice) anyOf(l ...string) string {
	return l[d.below(len(l))]
}

// chart tells a map that may be: of so many old places some are gone, and some new ones are put in.
func (d *dice) chart(old int) api.Map {
	m := api.Map{}
	for range old {
		switch d.below(5) {
		case 0:
			m.To = append(m.To, -1)
			continue
		case 1:
			m.New += 1 + d.below(2)
		}
		m.To = append(m.To, m.New)
		m.New++
	}
	m.New += d.below(3)
	return m
}

// any tells a map that leaves things as they are, is small, or leads to where the last rows or columns are.
func (d *dice) any(last int) api.Map {
	switch d.below(8) {
	case 0:
		return stays()
	case 1:
		return maps.Same(d.below(5))
	case 2:
		return api.Map{New: last - 4 + d.below(8)}
	}
	return d.chart(d.below(9))
}

func (d *dice) sheet() string {
	return d.anyOf("", "", "S", "S", "T", "U", "s", "S1", "A1", "abcdefghijkl")
}

func (d *dice) shift() api.Shift {
	return api.Shift{Sheet: d.sheet(), Rows: d.any(api.MaxRow), Cols: d.any(api.MaxCol), Gone: d.below(9) == 0}
}

func (d *dice) shifts(n int) []api.Shift {
	var l []api.Shift
	for range n {
		l = append(l, d.shift())
	}
	return l
}

// place tells a number from 0 to last: most often one of the first, sometimes one of the last.
func (d *dice) place(last int) int {
	if d.below(9) == 0 {
		return last - d.below(9)
	}
	return d.below(9)
}

func (d *dice) leaf() api.Node {
	from := api.Ref{Sheet: d.sheet(), Row: d.place(api.MaxRow), Col: d.place(api.MaxCol), AbsCol: d.below(2) == 0, AbsRow: d.below(2) == 0}
	to := api.Ref{Row: min(from.Row+d.below(6), api.MaxRow), Col: min(from.Col+d.below(6), api.MaxCol), AbsCol: d.below(2) == 0, AbsRow: d.below(2) == 0}
	switch d.below(12) {
	case 0:
		return num(d.below(1 << 20))
	case 1:
		return quoted(d.anyOf("", "A2", "S!A2", "A1:B3", `"`, `"A2"`, "=A2", "#REF!", "\xff"))
	case 2:
		return truth(d.below(2))
	case 3:
		return dead()
	case 4:
		return call(d.anyOf("NOW", "AAA1", "A0"))
	case 5, 6, 7:
		return span(from, to)
	}
	return ref(from)
}

// tree tells one at most so deep.
func (d *dice) tree(deep int) []api.Node {
	switch n := d.below(6); {
	case deep == 0 || n == 0:
		return []api.Node{d.leaf()}
	case n == 1:
		return join(api.Node{Kind: api.NNeg}, d.tree(deep-1))
	case n == 2:
		var args [][]api.Node
		for range d.below(4) {
			args = append(args, d.tree(deep-1))
		}
		return join(call(d.anyOf("SUM", "IF", "LOG10", "TRUE1")), args...)
	}
	return join(api.Node{Kind: api.NEq + d.below(api.NDiv-api.NEq+1)}, d.tree(deep-1), d.tree(deep-1))
}
