package calc

import (
	"fmt"
	"regexp"
	"slices"
	"strconv"
	"strings"
	"testing"

	"chequer/api"
	"chequer/book"
	"chequer/cell"
	"chequer/fun"
	"chequer/val"
)

// What the document says of values, in another way: a formula's text is reckoned while it is read, without nodes; cells
// come in rounds, each time all whose needs are known, until there are no more: the others are cyclic.

var (
	callsAt  = regexp.MustCompile(`^([A-Z0-9]+)\(`)
	cornerOf = `\$?([A-Z]{1,2})\$?([1-9][0-9]{0,2})`
	refsAt   = regexp.MustCompile(`^(?:([A-Za-z][A-Za-z0-9]*)!)?` + cornerOf + `(?::` + cornerOf + `)?`)
	textsAt  = regexp.MustCompile(`^"((?:[^"]|"")*)"`)
	wordsAt  = regexp.MustCompile(`^[0-9A-Z]+`)
)

// reader reads a formula on a sheet; ask tells a cell's value.
type reader struct {
	rest string
	own  string
	book api.Book
	ask  func(api.Spot) api.Val
}

// found is a value, and as an argument what it is, if that is another thing.
type found struct {
	v   api.Val
	arg *api.Arg
}

// took tells whether something stands next, and goes behind it.
func (r *reader) took(s string) bool {
	ok := strings.HasPrefix(r.rest, s)
	if ok {
		r.rest = r.rest[len(s):]
	}
	return ok
}

// signs by their levels, longer ones first.
func signs(level int) []string {
	return [][]string{{"<>", "<=", ">=", "=", "<", ">"}, {"&"}, {"+", "-"}, {"*", "/"}}[level]
}

func kindOf(sign string) int {
	return map[string]int{"=": api.NEq, "<>": api.NNe, "<": api.NLt, "<=": api.NLe, ">": api.NGt, ">=": api.NGe, "&": api.NCat, "+": api.NAdd, "-": api.NSub, "*": api.NMul, "/": api.NDiv}[sign]
}

func (r *reader) level(n int) found {
	if n == 4 {
		return r.unary()
	}
	left := r.level(n + 1)
again:
	for _, sign := range signs(n) {
		if r.took(sign) {
			right := r.level(n + 1)
			left = found{v: val.Two(kindOf(sign), left.v, right.v)}
			goto again
		}
	}
	return left
}

func (r *reader) unary() found {
	if r.took("-") {
		return found{v: val.Neg(r.unary().v)}
	}
	if r.took("(") {
		x := r.level(0)
		r.took(")")
		return x
	}
	if r.took("#REF!") {
		return found{v: no(api.ERef)}
	}
	if m := textsAt.FindStringSubmatch(r.rest); m != nil {
		r.took(m[0])
		s := strings.ReplaceAll(m[1], `""`, `"`)
		if len(s) > 200 {
			return found{v: no(api.EValue)}
		}
		return found{v: str(s)}
	}
	if m := callsAt.FindStringSubmatch(r.rest); m != nil {
		r.took(m[0])
		return r.called(m[1])
	}
	if m := refsAt.FindStringSubmatch(r.rest); m != nil {
		r.took(m[0])
		return r.named(m)
	}
	word := wordsAt.FindString(r.rest)
	r.took(word)
	if n, err := strconv.Atoi(word); err == nil {
		return found{v: num(n)}
	}
	return found{v: bin(word == "TRUE")}
}

func (r *reader) called(name string) found {
	var args []api.Arg
	for !r.took(")") {
		x := r.level(0)
		if x.arg == nil {
			x.arg = &api.Arg{Vals: []api.Val{x.v}}
		}
		args = append(args, *x.arg)
		r.took(",")
	}
	return found{v: fun.Call(name, args)}
}

// placeOf tells the place of a row's digits, of a column's letters.
func placeOf(s string) int {
	if n, err := strconv.Atoi(s); err == nil {
		return n - 1
	}
	n := 0
	for _, c := range s {
		n = 26*n + int(c-'A') + 1
	}
	return n - 1
}

// named tells what a reference is, or a range, by the parts of its text.
func (r *reader) named(m []string) found {
	name := m[1]
	if name == "" {
		name = r.own
	}
	sheet := slices.IndexFunc(r.book.Sheets, func(s api.Sheet) bool { return s.Name == name })
	from := api.Spot{Sheet: name, Row: placeOf(m[3]), Col: placeOf(m[2])}
	if m[4] != "" {
		arg := r.spanned(sheet, from, api.Spot{Row: placeOf(m[5]), Col: placeOf(m[4])})
		return found{no(api.EValue), &arg}
	}
	if sheet < 0 {
		return found{v: no(api.ERef)}
	}
	if s := r.book.Sheets[sheet]; from.Row >= len(s.Rows) || from.Col >= s.Cols {
		return found{v: none}
	}
	return found{v: r.ask(from)}
}

// spanned goes through all cells of a sheet and asks those that are within.
func (r *reader) spanned(sheet int, from, to api.Spot) api.Arg {
	if sheet < 0 {
		return api.Arg{Vals: []api.Val{no(api.ERef)}}
	}
	arg := api.Arg{Range: true}
	s := r.book.Sheets[sheet]
	for col := range s.Cols {
		if col >= from.Col && col <= to.Col {
			arg.Cols++
		}
	}
	for row := range s.Rows {
		for col := range s.Cols {
			if row >= from.Row && row <= to.Row && col >= from.Col && col <= to.Col {
				arg.Vals = append(arg.Vals, r.ask(api.Spot{Sheet: from.Sheet, Row: row, Col: col}))
			}
		}
	}
	return arg
}

// theirEval tells what a formula's text on a sheet makes of cells' values.
func theirEval(text, own string, b api.Book, ask func(api.Spot) api.Val) api.Val {
	r := &reader{text, own, b, ask}
	v := r.level(0).v
	if r.rest != "" {
		panic("not read: " + text)
	}
	return v
}

// theirPlain tells the value of a cell that may be, and has no formula.
func theirPlain(text string) api.Val {
	if text == "" {
		return none
	}
	if s, ok := strings.CutPrefix(text, "'"); ok {
		if len(s) > 200 {
			return no(api.EValue)
		}
		return str(s)
	}
	n, err := strconv.Atoi(text)
	if err != nil {
		panic("no number: " + text)
	}
	return num(n)
}

// theirValues tells the values of a book that may be, round by round.
func theirValues(b api.Book) map[api.Spot]api.Val {
	known, open := map[api.Spot]api.Val{}, map[api.Spot]string{}
	for _, s := range b.Sheets {
		for i, row := range s.Rows {
			for j, text := range row {
				at := api.Spot{Sheet: s.Name, Row: i, Col: j}
				if formula, ok := strings.CutPrefix(text, "="); ok {
					open[at] = formula
				} else {
					known[at] = theirPlain(text)
				}
			}
		}
	}
	for last := -1; last != len(known); {
		last = len(known)
		for at, formula := range open {
			missing := false
			v := theirEval(formula, at.Sheet, b, func(s api.Spot) api.Val {
				v, ok := known[s]
				missing = missing || !ok
				return v
			})
			if !missing {
				known[at] = v
				delete(open, at)
			}
		}
	}
	for at := range open {
		known[at] = no(api.ECycle)
	}
	return known
}

// dump tells all that is in a book as one text.
func dump(b api.Book) string {
	var s strings.Builder
	for _, l := range b.Sheets {
		fmt.Fprintf(&s, "%q %d %q\n", l.Name, l.Cols, l.Rows)
	}
	return s.String()
}

// brief tells what a fault's text shows of a book.
func brief(b api.Book) string {
	s := dump(b)
	return s[:min(len(s), 2000)]
}

// check holds the values of a book that may be against the other way, against what Eval makes of them, and against their
// layout.
func check(t *testing.T, b api.Book) {
	t.Helper()
	if !book.May(b) {
		t.Fatalf("may not be:\n%s", brief(b))
	}
	was := dump(b)
	vals := Values(b)
	if dump(b) != was {
		t.Fatalf("R3: what was handed in was\n%sand is\n%s", was, dump(b))
	}
	want := theirValues(b)
	if len(vals) != len(b.Sheets) {
		t.Fatalf("14.2: Values of\n%s: %d sheets", brief(b), len(vals))
	}
	for i, s := range b.Sheets {
		if len(vals[i]) != len(s.Rows) {
			t.Fatalf("14.2: Values of\n%s: %d rows of %s", brief(b), len(vals[i]), s.Name)
		}
		for j, row := range s.Rows {
			if len(vals[i][j]) != len(row) {
				t.Fatalf("14.2: Values of\n%s: %d cells of %d. row of %s", brief(b), len(vals[i][j]), j, s.Name)
			}
			for k, text := range row {
				at := api.Spot{Sheet: s.Name, Row: j, Col: k}
				if vals[i][j][k] != want[at] {
					t.Fatalf("14.2: Values of\n%s: %v, %q, is %s, not %s", brief(b), at, text, told(vals[i][j][k]), told(want[at]))
				}
				checkOne(t, b, vals, at, vals[i][j][k])
			}
		}
	}
}

// checkOne holds a cell's value against what its text makes of the others.
func checkOne(t *testing.T, b api.Book, vals [][][]api.Val, at api.Spot, v api.Val) {
	t.Helper()
	text := book.Get(b, at)
	l, ok := cell.Formula(text)
	switch {
	case !ok && v != cell.Plain(text):
		t.Fatalf("14.2: Values of\n%s: %v, %q, is %s", brief(b), at, text, told(v))
	case ok && v != no(api.ECycle) && v != Eval(l, at.Sheet, b, vals):
		t.Fatalf("14.3: Values of\n%s: %v, %q, is %s, but of the others comes %s", brief(b), at, text, told(v), told(Eval(l, at.Sheet, b, vals)))
	}
}
