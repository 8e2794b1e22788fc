package calc

import (
	"slices"
	"strings"
	"testing"

	"chequer/api"
	"chequer/parse"
)

func leaf(n int) api.Node { return api.Node{Kind: api.NNum, Num: n} }

func ref(sheet string, row, col int) api.Ref { return api.Ref{Sheet: sheet, Row: row, Col: col} }

// wrong are lists that are no trees, most of which a careless reckoner would take.
func wrong() map[string][]api.Node {
	one := leaf(1)
	plus := func(kids ...int) api.Node { return api.Node{Kind: api.NAdd, Kids: kids} }
	minus := func(kids ...int) api.Node { return api.Node{Kind: api.NNeg, Kids: kids} }
	sum := func(name string, kids ...int) api.Node { return api.Node{Kind: api.NCall, Text: name, Kids: kids} }
	span := func(from, to api.Ref) []api.Node {
		return []api.Node{{Kind: api.NRange, Ref: from, To: to}, sum("COUNT", 0)}
	}
	return map[string][]api.Node{
		"nil": nil, "empty": {},
		"zero": {{}}, "kind below": {{Kind: -1}}, "kind above": {{Kind: api.NDiv + 1, Kids: []int{0, 1}}}, "kind far above": {{Kind: most}}, "kind far below": {{Kind: least}},
		"two roots": {one, leaf(2)}, "root not last": {leaf(1), minus(0), leaf(3)}, "one not used": {leaf(1), leaf(2), leaf(3), plus(1, 2)},
		"own kid": {minus(0)}, "kid behind": {minus(1), one}, "kid below": {one, minus(-1)}, "kid far off": {one, minus(7)}, "kid at the end": {one, minus(most)}, "kid at the beginning": {one, minus(least)},
		"twice": {one, plus(0, 0)}, "turned round": {one, leaf(2), plus(1, 0)}, "three kids": {one, leaf(2), leaf(3), plus(0, 1, 2)}, "one kid": {one, plus(0)}, "no kid": {plus()}, "none for a minus": {minus()}, "two for a minus": {one, leaf(2), minus(0, 1)},
		"kids of a number": {one, {Kind: api.NNum, Num: 5, Kids: []int{0}}}, "kids of a reference": {one, {Kind: api.NRef, Kids: []int{0}}}, "kids of a dead one": {one, {Kind: api.NDead, Kids: []int{0}}},
		"not post order": {one, leaf(2), leaf(3), plus(0, 1), plus(3, 2)}, "shared": {one, minus(0), minus(0), plus(1, 2)},
		"below 0": {leaf(-1)}, "truth of 2": {{Kind: api.NBool, Num: 2}}, "truth of -1": {{Kind: api.NBool, Num: -1}}, "text with a line": {{Kind: api.NText, Text: "a\nb"}}, "text with nought": {{Kind: api.NText, Text: "\x00"}},
		"number with text": {{Kind: api.NNum, Num: 1, Text: "x"}}, "number with a reference": {{Kind: api.NNum, Num: 1, Ref: ref("A", 0, 0)}}, "text with a number": {{Kind: api.NText, Text: "x", Num: 1}}, "dead with a number": {{Kind: api.NDead, Num: 1}}, "reference with a second one": {{Kind: api.NRef, To: ref("", 1, 1)}}, "reference with a text": {{Kind: api.NRef, Text: "A1"}}, "sum with a text": {one, leaf(2), {Kind: api.NAdd, Text: "+", Kids: []int{0, 1}}}, "call with a number": {{Kind: api.NCall, Text: "SUM", Num: 1}},
		"row below": {{Kind: api.NRef, Ref: ref("", -1, 0)}}, "column below": {{Kind: api.NRef, Ref: ref("", 0, -1)}}, "row above": {{Kind: api.NRef, Ref: ref("", api.MaxRow+1, 0)}}, "column above": {{Kind: api.NRef, Ref: ref("", 0, api.MaxCol+1)}}, "row far above": {{Kind: api.NRef, Ref: ref("", most, 0)}}, "row far below": {{Kind: api.NRef, Ref: ref("", least, 0)}}, "no sheet's name": {{Kind: api.NRef, Ref: ref("A 1", 0, 0)}}, "a longer name": {{Kind: api.NRef, Ref: ref("Abcdefghijklm", 0, 0)}},
		"range turned by rows": span(ref("", 1, 0), ref("", 0, 0)), "range turned by columns": span(ref("", 0, 1), ref("", 0, 0)), "range with two sheets": span(ref("A", 0, 0), ref("A", 1, 1)), "range from below": span(ref("", -1, 0), ref("", 1, 1)), "range too far": span(ref("", 0, 0), ref("", api.MaxRow+1, 0)), "range far too far": span(ref("", 0, 0), ref("", most, most)), "range of all": span(ref("", least, least), ref("", most, most)),
		"no name": {sum("")}, "a small name": {sum("sum")}, "a reference's name": {sum("A1")}, "TRUE": {sum("TRUE")}, "FALSE": {one, sum("FALSE", 0)}, "blank in a name": {one, sum("SUM ", 0)}, "a long name": {sum("ABCDEFGHIJKLM")}, "bytes": {sum("\xff")}, "kids of a call turned round": {one, leaf(2), sum("SUM", 1, 0)}, "a kid too many": {one, sum("SUM", 0, 1)},
		"wrong deep within": {one, leaf(-2), plus(0, 1), sum("COUNT", 2)}, "wrong and not taken": {one, leaf(2), leaf(-3), sum("IF", 0, 1, 2)}, "wrong and counted": {one, {Kind: api.NBool, Num: 7}, sum("COUNT", 0, 1)},
	}
}

// 14.1: lists that are no Tree.
func TestNoTree(t *testing.T) {
	b, vals := mixed()
	for name, l := range wrong() {
		if parse.Tree(l) {
			t.Errorf("%s: is a tree", name)
		}
		for _, own := range []string{"A", "X", ""} {
			if got := Eval(l, own, b, vals); got != no(api.EValue) {
				t.Errorf("14.1: no tree (%s) on %q: %s", name, own, told(got))
			}
			if got := Eval(l, own, api.Book{}, nil); got != no(api.EValue) {
				t.Errorf("14.1: no tree (%s) beside nothing: %s", name, told(got))
			}
		}
	}
}

// 14.1: trees that are ones, spoilt in one field of one node each: most are none then; what is left never panics.
func TestSpoiltTrees(t *testing.T) {
	b, vals := mixed()
	broken := 0
	for _, s := range []string{"1", "A1+1", `"x"&B1`, "SUM(A1:C3,1)", "IF(A1=2,-B2,NIX())", "TRUE<>#REF!", "B!A1*ROWS(C!A1:B2)"} {
		whole := nodes(t, s)
		for i := range whole {
			for _, n := range []int{least, -1, 0, 1, 2, 3, 6, 7, 8, 19, 20, most} {
				for field := range 6 {
					l := spoilt(whole, i, field, n)
					got := Eval(l, "A", b, vals)
					if parse.Tree(l) {
						continue
					}
					broken++
					if got != no(api.EValue) {
						t.Errorf("14.1: %s, spoilt at %d (%d, %d): %s", s, i, field, n, told(got))
					}
				}
			}
		}
	}
	if broken < 800 {
		t.Error("too few of one kind", broken)
	}
}

// spoilt tells nodes, in one of which a field is n.
func spoilt(l []api.Node, i, field, n int) []api.Node {
	l = slices.Clone(l)
	x := &l[i]
	x.Kids = slices.Clone(x.Kids)
	switch field {
	case 0:
		x.Kind = n
	case 1:
		x.Num = n
	case 2:
		x.Ref.Row = n
	case 3:
		x.To.Col = n
	case 4:
		x.Kids = append(x.Kids, n)
	default:
		if len(x.Kids) > 0 {
			x.Kids[len(x.Kids)-1] = n
		}
	}
	return l
}

// 14.1: trees that are deeper and longer than any formula that may be kept.
func TestGreatTrees(t *testing.T) {
	const n = 50_000
	b, vals := mixed()
	minus, left, calls := []api.Node{leaf(5)}, []api.Node{leaf(0)}, []api.Node{leaf(3)}
	for i := range n + 1 {
		minus = append(minus, api.Node{Kind: api.NNeg, Kids: []int{i}})
		left = append(left, leaf(i+1), api.Node{Kind: api.NAdd, Kids: []int{2 * i, 2*i + 1}})
		calls = append(calls, api.Node{Kind: api.NCall, Text: "ABS", Kids: []int{i}})
	}
	var right, wide []api.Node
	kids := []int{}
	for i := range n {
		right = append(right, api.Node{Kind: api.NRef, Ref: ref("B", 0, 0)})
		wide = append(wide, leaf(i), api.Node{Kind: api.NNeg, Kids: []int{2 * i}})
		kids = append(kids, 2*i+1)
	}
	right = append(right, leaf(1))
	for i := range n {
		right = append(right, api.Node{Kind: api.NSub, Kids: []int{n - 1 - i, n + i}})
	}
	wide = append(wide, api.Node{Kind: api.NCall, Text: "SUM", Kids: kids})
	for name, c := range map[string]struct {
		l    []api.Node
		want api.Val
	}{
		"minus": {minus, num(-5)}, "minus once more": {minus[:n+1], num(5)}, "left": {left, num((n + 1) * (n + 2) / 2)}, "right": {right, num(1)}, "right, one fewer": {right[1:], no(api.EValue)}, "calls": {calls, num(3)}, "wide": {wide, num(-n * (n - 1) / 2)},
	} {
		if got := Eval(c.l, "A", b, vals); got != c.want {
			t.Errorf("14.1: a great tree (%s): %s, not %s", name, told(got), told(c.want))
		}
	}
}

// 14.1: one text after another: what is too long stays an error.
func TestGrowingText(t *testing.T) {
	b, vals := mixed()
	l := []api.Node{{Kind: api.NText, Text: "0123456789"}}
	for i := range 30 {
		want := str(strings.Repeat("0123456789", i+1))
		if i >= 20 {
			want = no(api.EValue)
		}
		if got := Eval(l, "A", b, vals); got != want {
			t.Errorf("14.1: %d texts: %s, not %s", i+1, told(got), told(want))
		}
		l = append(l, l[0], api.Node{Kind: api.NCat, Kids: []int{2 * i, 2*i + 1}})
	}
}

// 14.1, R1: values that are not laid out as the book is: of what is told then nothing is said, but that it is told.
func TestOtherLayouts(t *testing.T) {
	b, vals := mixed()
	odd := []api.Val{{Kind: -1}, {Kind: 5}, {Kind: most, N: least, S: "x"}, {Kind: api.VErr}, {Kind: api.VErr, N: 7}, {Kind: api.VErr, N: least}, {Kind: api.VBool, N: 2}, {Kind: api.VText, S: strings.Repeat("x", 1<<16)}, {Kind: api.VNone, N: 3, S: "y"}}
	layouts := [][][][]api.Val{nil, {}, {nil}, {{}}, {{nil}}, {{{}}}, {{{num(1)}}}, vals[:1], vals[1:], {nil, nil, nil, nil, nil}, {{{}, {num(1)}}, {{num(1), num(2)}, {}, {num(3)}}}, append(slices.Clone(vals), vals...), {{odd, odd, odd}, {odd}, {odd, odd}, {odd}, {odd}}}
	books := []api.Book{{}, b, made(b.Sheets[0]), made(b.Sheets[1:]...), made(b.Sheets[4], b.Sheets[0], b.Sheets[0])}
	for _, layout := range layouts {
		for _, b := range books {
			for _, s := range []string{"A1", "B2", "C3", "D4", "ZZ999", "B!A2", "C!A1", "D!B1", "a!B1", "X!A1", "A1+B1&C1", "SUM(A1:C3)", "CONCAT(A1:ZZ999,a!A1:ZZ999)", "COUNT(C!A1:B2,D!A1:B9)", "ROWS(A2:B9)&COLS(B1:Z2)", "MAX(B!A1:C3)", "A1<B1", "-C1", "LEN(C1)", "IF(C1,D1,E1)", "AND(A1:I1)", "LEFT(H1,300)", "ISERR(E1)"} {
				Eval(nodes(t, s), "A", b, layout)
			}
		}
	}
}

// 14.1: books that may not be: a cell is one of its row, whatever Cols says; a range has the columns of its sheet.
func TestOddBooks(t *testing.T) {
	rows := [][]string{{"1", "2", "3"}, {"4"}, nil, {"5", "6"}}
	vals := [][][]api.Val{{{num(1), num(2), num(3)}, {num(4)}, nil, {num(5), num(6)}}, {{num(9)}}}
	for cols, want := range map[int]map[string]api.Val{
		2:          {"SUM(A1:C9)": num(18), "SUM(B1:C9)": num(8), "COLS(A1:C9)": num(2), "ROWS(A1:C9)": num(4), "ROWS(A2:A3)": num(2), "COUNT(A1:C9)": num(5), "COLS(C1:C9)": num(0), "SUM(C1:C9)": num(0)},
		4:          {"SUM(A1:Z9)": num(21), "COLS(A1:Z9)": num(4), "ROWS(A1:Z9)": num(4), "COUNT(D1:Z9)": num(0), "COLS(D1:Z9)": num(1), "ROWS(D1:Z9)": num(4)},
		0:          {"SUM(A1:Z9)": num(0), "COLS(A1:Z9)": num(0), "COLS(B1:Z9)": num(0), "ROWS(A1:Z9)": num(0)},
		-1:         {"SUM(A1:Z9)": num(0), "COLS(A1:Z9)": num(0), "COLS(B1:Z9)": num(0), "ROWS(B1:Z9)": num(0)},
		least:      {"SUM(A1:Z9)": num(0), "COLS(A1:Z9)": num(0), "COLS(B1:Z9)": num(0), "COLS(ZZ1:ZZ9)": num(0), "ROWS(B1:Z9)": num(0)},
		most:       {"SUM(A1:ZZ999)": num(21), "COLS(A1:ZZ999)": num(api.MaxCol + 1), "ROWS(A1:ZZ999)": num(4), "COLS(ZZ1:ZZ1)": num(1)},
		api.MaxCol: {"COLS(A1:ZZ999)": num(api.MaxCol), "COLS(ZZ1:ZZ1)": num(0), "SUM(A1:ZZ999)": num(21)},
	} {
		b := made(api.Sheet{Name: "A", Cols: cols, Rows: rows}, api.Sheet{Name: "A", Cols: 1, Rows: [][]string{{"9"}}})
		for s, v := range map[string]api.Val{"A1": num(1), "C1": num(3), "B2": none, "A3": none, "B4": num(6), "A5": none, "D1": none, "B!A1": no(api.ERef)} {
			if got := Eval(nodes(t, s), "A", b, vals); got != v {
				t.Errorf("14.1: %s of %d columns: %s, not %s", s, cols, told(got), told(v))
			}
		}
		for s, v := range want {
			if got := Eval(nodes(t, s), "A", b, vals); got != v {
				t.Errorf("14.1: %s of %d columns: %s, not %s", s, cols, told(got), told(v))
			}
		}
	}
}

// 14.1: a sheet of any size, beyond what a reference can name.
func TestGreatSheet(t *testing.T) {
	s := api.Sheet{Name: "A", Cols: api.MaxCol + 10}
	var vals [][]api.Val
	for range api.MaxRow + 10 {
		s.Rows = append(s.Rows, make([]string, s.Cols))
		vals = append(vals, slices.Repeat([]api.Val{num(1)}, s.Cols))
	}
	for text, want := range map[string]api.Val{"SUM(A1:ZZ999)": num(702 * 999), "ROWS(A1:ZZ999)": num(999), "COLS(A1:ZZ999)": num(702), "SUM(ZZ999:ZZ999)": num(1), "ZZ999": num(1)} {
		if got := Eval(nodes(t, text), "A", made(s), [][][]api.Val{vals}); got != want {
			t.Errorf("14.1: %s: %s, not %s", text, told(got), told(want))
		}
	}
}
