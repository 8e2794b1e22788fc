package parse

import (
	"math"
	"slices"
	"strings"
	"testing"

	"chequer/api"
	"chequer/lex"
)

// same tells whether two lists of nodes are alike in all fields; a nil list and an empty one are one.
func same(a, b []api.Node) bool {
	return slices.EqualFunc(a, b, func(m, n api.Node) bool {
		return m.Kind == n.Kind && m.Num == n.Num && m.Text == n.Text && m.Ref == n.Ref && m.To == n.To && slices.Equal(m.Kids, n.Kids)
	})
}

// check holds what Parse tells of s against another way of reading it, and against Tree.
func check(t *testing.T, s string) {
	t.Helper()
	l, e := Parse(s)
	if l2, e2 := theirs(s); e != e2 || !same(l, l2) {
		t.Fatalf("5.1, 5.2: Parse(%q): %v, %d, not %v, %d", s, l, e, l2, e2)
	}
	if e != api.OK && len(l) != 0 {
		t.Fatalf("R4: Parse(%q): %v", s, l)
	}
	if Tree(l) != (e == api.OK) {
		t.Fatalf("5.2: Tree of %q: %v", s, !(e == api.OK))
	}
}

// expect holds the nodes of s against some that are written out.
func expect(t *testing.T, s string, want ...api.Node) {
	t.Helper()
	if l, e := Parse(s); e != api.OK || !same(l, want) {
		t.Errorf("5.2: Parse(%q): %v, %d, not %v", s, l, e, want)
	}
	check(t, s)
}

// wrong expects that s has no nodes, by an error.
func wrong(t *testing.T, s string, want api.Errno) {
	t.Helper()
	if l, e := Parse(s); e != want || len(l) != 0 {
		t.Errorf("5.1: Parse(%q): %v, %d, not %d", s, l, e, want)
	}
	check(t, s)
}

// right expects that s has nodes, whichever they are.
func right(t *testing.T, s string) {
	t.Helper()
	if _, e := Parse(s); e != api.OK {
		t.Errorf("5.1: Parse(%q): %d", s, e)
	}
	check(t, s)
}

func num(n int) api.Node {
	return api.Node{Kind: api.NNum, Num: n}
}

func text(s string) api.Node {
	return api.Node{Kind: api.NText, Text: s}
}

func truth(n int) api.Node {
	return api.Node{Kind: api.NBool, Num: n}
}

func dead() api.Node {
	return api.Node{Kind: api.NDead}
}

func ref(r api.Ref) api.Node {
	return api.Node{Kind: api.NRef, Ref: r}
}

func area(r, to api.Ref) api.Node {
	return api.Node{Kind: api.NRange, Ref: r, To: to}
}

func call(name string, kids ...int) api.Node {
	return api.Node{Kind: api.NCall, Text: name, Kids: kids}
}

func neg(kid int) api.Node {
	return api.Node{Kind: api.NNeg, Kids: []int{kid}}
}

func two(kind, left, right int) api.Node {
	return api.Node{Kind: kind, Kids: []int{left, right}}
}

// allOperators are all of them with their kinds and ranks, as the document tells them.
func allOperators() []operator {
	return []operator{{"=", 1, 9}, {"<>", 1, 10}, {"<", 1, 11}, {"<=", 1, 12}, {">", 1, 13}, {">=", 1, 14}, {"&", 2, 15},
		{"+", 3, 16}, {"-", 3, 17}, {"*", 4, 18}, {"/", 4, 19}}
}

// leaves are texts of one node each.
func leaves() map[string]api.Node {
	return map[string]api.Node{
		"0": num(0), "7": num(7), "100": num(100), "9223372036854775807": num(math.MaxInt64),
		`""`: text(""), `"a"`: text("a"), `"a""b"`: text(`a"b`), `"TRUE"`: text("TRUE"), `"A1"`: text("A1"), `"-"`: text("-"),
		`"("`: text("("), `")"`: text(")"), `":"`: text(":"), `","`: text(","), `"+"`: text("+"), "\"é\xff\"": text("é\xff"),
		`"#REF!"`: text("#REF!"),
		"TRUE":    truth(1), "FALSE": truth(0), "#REF!": dead(),
		"A1": ref(api.Ref{}), "$B3": ref(api.Ref{Col: 1, Row: 2, AbsCol: true}), "B$3": ref(api.Ref{Col: 1, Row: 2, AbsRow: true}),
		"ZZ999": ref(api.Ref{Col: 701, Row: 998}), "S1!C20": ref(api.Ref{Sheet: "S1", Col: 2, Row: 19}),
		"TRUE!A1": ref(api.Ref{Sheet: "TRUE"}),
		"A1:B2":   area(api.Ref{}, api.Ref{Col: 1, Row: 1}),
	}
}

// 5.2: numbers, texts, truths, dead references, references: alone, in brackets, between blanks.
func TestLeaves(t *testing.T) {
	for s, n := range leaves() {
		expect(t, s, n)
		expect(t, "  "+s+" ", n)
		expect(t, "("+s+")", n)
		expect(t, " ( (( "+s+" ) ) ) ", n)
		expect(t, "-"+s, n, neg(0))
		expect(t, "F("+s+")", n, call("F", 0))
		for s2, n2 := range leaves() {
			expect(t, s+"+"+s2, n, n2, two(api.NAdd, 0, 1))
			expect(t, s+" < "+s2, n, n2, two(api.NLt, 0, 1))
			expect(t, "F("+s+","+s2+")", n, n2, call("F", 0, 1))
			wrong(t, s+" "+s2, api.ErrForm)
			wrong(t, s+"("+s2+")", api.ErrForm)
			wrong(t, "("+s+")"+s2, api.ErrForm)
			wrong(t, s+","+s2, api.ErrForm)
		}
	}
}

// 5.1, 5.2: each operator; those of one kind and of one rank in a row go from the left.
func TestOperators(t *testing.T) {
	for _, o := range allOperators() {
		expect(t, "1"+o.sign+"2", num(1), num(2), two(o.kind, 0, 1))
		expect(t, "1"+o.sign+"2"+o.sign+"3", num(1), num(2), two(o.kind, 0, 1), num(3), two(o.kind, 2, 3))
		expect(t, "1"+o.sign+"(2"+o.sign+"3)", num(1), num(2), num(3), two(o.kind, 1, 2), two(o.kind, 0, 3))
		expect(t, "1"+o.sign+"2"+o.sign+"3"+o.sign+"4", num(1), num(2), two(o.kind, 0, 1), num(3), two(o.kind, 2, 3), num(4), two(o.kind, 4, 5))
		if o.sign != "-" {
			wrong(t, o.sign+"1", api.ErrForm)
			wrong(t, "1"+o.sign+o.sign+"1", api.ErrForm)
			wrong(t, "("+o.sign+"1)", api.ErrForm)
			wrong(t, "F("+o.sign+"1)", api.ErrForm)
		}
		for _, s := range []string{o.sign, "1" + o.sign, "(1" + o.sign + ")", "(" + o.sign + ")", "F(1" + o.sign + ",2)", "1" + o.sign + "*2", "1 " + o.sign + " )"} {
			wrong(t, s, api.ErrForm)
		}
	}
}

// 5.1: each operator beside each other one: the tighter one first, of one rank the left one first.
func TestRanks(t *testing.T) {
	for _, a := range allOperators() {
		for _, b := range allOperators() {
			s := "1" + a.sign + "2" + b.sign + "3"
			if a.rank >= b.rank {
				expect(t, s, num(1), num(2), two(a.kind, 0, 1), num(3), two(b.kind, 2, 3))
			} else {
				expect(t, s, num(1), num(2), num(3), two(b.kind, 1, 2), two(a.kind, 0, 3))
			}
			expect(t, "(1"+a.sign+"2)"+b.sign+"3", num(1), num(2), two(a.kind, 0, 1), num(3), two(b.kind, 2, 3))
			expect(t, "1"+a.sign+"(2"+b.sign+"3)", num(1), num(2), num(3), two(b.kind, 1, 2), two(a.kind, 0, 3))
			expect(t, "-1"+a.sign+"-2", num(1), neg(0), num(2), neg(2), two(a.kind, 1, 3))
			expect(t, "-(1"+a.sign+"2)", num(1), num(2), two(a.kind, 0, 1), neg(2))
			expect(t, "F(1"+a.sign+"2,3)"+b.sign+"4", num(1), num(2), two(a.kind, 0, 1), num(3), call("F", 2, 3), num(4), two(b.kind, 4, 5))
			for _, c := range allOperators() {
				check(t, s+c.sign+"4")
				check(t, s+c.sign+"-4"+a.sign+"(5"+b.sign+"6)")
				check(t, "-(1"+a.sign+"2)"+b.sign+"(3"+c.sign+"4"+a.sign+"5)")
			}
		}
	}
	expect(t, "1=2&3+4*-5", num(1), num(2), num(3), num(4), num(5), neg(4), two(api.NMul, 3, 5), two(api.NAdd, 2, 6), two(api.NCat, 1, 7), two(api.NEq, 0, 8))
	expect(t, "-1*2+3&4=5", num(1), neg(0), num(2), two(api.NMul, 1, 2), num(3), two(api.NAdd, 3, 4), num(4), two(api.NCat, 5, 6), num(5), two(api.NEq, 7, 8))
}

// 5.1, 5.2: signs ahead hold tighter than all operators.
func TestSignsAhead(t *testing.T) {
	expect(t, "-1", num(1), neg(0))
	expect(t, "--1", num(1), neg(0), neg(1))
	expect(t, "- - -1", num(1), neg(0), neg(1), neg(2))
	expect(t, "1--1", num(1), num(1), neg(1), two(api.NSub, 0, 2))
	expect(t, "1---1", num(1), num(1), neg(1), neg(2), two(api.NSub, 0, 3))
	expect(t, "-1-1", num(1), neg(0), num(1), two(api.NSub, 1, 2))
	expect(t, "-1*--2", num(1), neg(0), num(2), neg(2), neg(3), two(api.NMul, 1, 4))
	expect(t, "-A1:B2", area(api.Ref{}, api.Ref{Col: 1, Row: 1}), neg(0))
	expect(t, "-F(-1)", num(1), neg(0), call("F", 1), neg(2))
	expect(t, "-(-(1))", num(1), neg(0), neg(1))
	expect(t, "-9223372036854775807", num(math.MaxInt64), neg(0))
	for _, s := range []string{"-", "--", "1-", "-)", "(-)", "-,1", "F(-)", "F(-,1)", "-+1", "+-1", "-*1", "A1:-B2", "F-", "F-(1)", "-F", "1-:2"} {
		wrong(t, s, api.ErrForm)
	}
	wrong(t, "-9223372036854775808", api.ErrForm)
}

// 5.1, 5.2: calls with no argument, with one, with several, within calls; names that are none here.
func TestCalls(t *testing.T) {
	expect(t, "F()", call("F"))
	expect(t, " SUM ( ) ", call("SUM"))
	expect(t, "F(1)", num(1), call("F", 0))
	expect(t, "F((1))", num(1), call("F", 0))
	expect(t, "F(1,2,3,4)", num(1), num(2), num(3), num(4), call("F", 0, 1, 2, 3))
	expect(t, "F(1+2,3*4)", num(1), num(2), two(api.NAdd, 0, 1), num(3), num(4), two(api.NMul, 3, 4), call("F", 2, 5))
	expect(t, "F(G(),H(1,G(2)),3)", call("G"), num(1), num(2), call("G", 2), call("H", 1, 3), num(3), call("F", 0, 4, 5))
	expect(t, "F()+G()", call("F"), call("G"), two(api.NAdd, 0, 1))
	expect(t, "F(F(F(F())))", call("F"), call("F", 0), call("F", 1), call("F", 2))
	expect(t, "F(A1=1,TRUE)", ref(api.Ref{}), num(1), two(api.NEq, 0, 1), truth(1), call("F", 2, 3))
	for _, name := range []string{"A", "Z", "SUM", "TRU", "TRUES", "TRUE1", "FALSE0", "XFALSE", "A0", "A01", "AAA1", "A1000", "R2D2", "ABCDEFGHIJKL", "A99999999999"} {
		expect(t, name+"(1,2)", num(1), num(2), call(name, 0, 1))
		expect(t, name+"()", call(name))
		for _, behind := range []string{"", "+1", "1", ":A1", ")", ",", " A1", " TRUE", " " + name + "()", `"a"`, "#REF!", "-1", "=1"} {
			if !strings.HasPrefix(name+behind, name+"1") {
				wrong(t, name+behind, api.ErrForm)
			}
			wrong(t, "F("+name+behind, api.ErrForm)
		}
	}
	for _, s := range []string{"TRUE()", "FALSE()", "TRUE(1)", "FALSE (1)", "A1()", "A1(1)", "S1!A1(1)", "#REF!()", `"F"()`, "1()", "(F)()", "F()()", "F(1)(2)",
		"f()", "Sum(1)", "ABCDEFGHIJKLM()", "S!F()", "$F()", "F", "F(", "F)", "F(1", "F(1,", "F(1,)", "F(,)", "F(,1)", "F(1,,2)", "F(1 2)", "F(1))", "F((1)", "F(1:2)",
		"F(1,2", "F(1,(2)", "F(()", "F(())", "F(),", "F(),1", ",F()", "(F(1),2)", "(1,2)", "F((1,2))", "-F(1,)", "F(G,1)", "F(G(1)", "F(=1)", "F(1=)", "F[1]", "F(1;2)"} {
		wrong(t, s, api.ErrForm)
	}
}

// 5.1, 5.2: references and ranges, their sheets and marks, and second references that may not be.
func TestRanges(t *testing.T) {
	expect(t, "A1:A1", area(api.Ref{}, api.Ref{}))
	expect(t, "S!A1:A1", area(api.Ref{Sheet: "S"}, api.Ref{}))
	expect(t, "$A1:A$1", area(api.Ref{AbsCol: true}, api.Ref{AbsRow: true}))
	expect(t, " S1!$B$3 : $C4 ", area(api.Ref{Sheet: "S1", Col: 1, Row: 2, AbsCol: true, AbsRow: true}, api.Ref{Col: 2, Row: 3, AbsCol: true}))
	expect(t, "Z9:AA10", area(api.Ref{Col: 25, Row: 8}, api.Ref{Col: 26, Row: 9}))
	expect(t, "A1:ZZ999", area(api.Ref{}, api.Ref{Col: 701, Row: 998}))
	expect(t, "ZZ999:ZZ999", area(api.Ref{Col: 701, Row: 998}, api.Ref{Col: 701, Row: 998}))
	expect(t, "SUM!A1:B2", area(api.Ref{Sheet: "SUM"}, api.Ref{Col: 1, Row: 1}))
	expect(t, "A1:B2+C3", area(api.Ref{}, api.Ref{Col: 1, Row: 1}), ref(api.Ref{Col: 2, Row: 2}), two(api.NAdd, 0, 1))
	expect(t, "F(A1:B2,C3:C3)", area(api.Ref{}, api.Ref{Col: 1, Row: 1}), area(api.Ref{Col: 2, Row: 2}, api.Ref{Col: 2, Row: 2}), call("F", 0, 1))
	for _, s := range []string{"B1:A1", "A2:A1", "B1:A2", "A2:B1", "B2:A1", "AA1:Z1", "A10:A9", "$B1:A1", "S!B1:A1", "A1:S!B2", "S!A1:S!B2", "S!A1:S!A1", "A1:S!A1", "S!A1:T!B2",
		"A1:", ":A1", "A1:1", "1:A1", "1:2", "A1:TRUE", "TRUE:A1", "A1:F", "A1:F()", "F():A1", "A1:#REF!", "#REF!:A1", `A1:"A1"`, `"A1":A1`, "A1:(B2)", "(A1):B2", "(A1:B2):C3",
		"A1:B2:C3", "A1::B2", "A1:,", "A1:)", "(A1:)", "A1:-B2", "A1:B2 C3", "A1:B2(1)", "A1 B2", ":", "A1:B0", "A1:b2", "A1:B1000", "F(A1:,B2)"} {
		wrong(t, s, api.ErrForm)
	}
	some := []int{0, 1, 2, 25, 26, 701}
	for _, a := range some {
		for _, b := range some {
			for _, c := range some {
				for _, d := range some {
					from, to := api.Ref{Col: a, Row: b}, api.Ref{Col: c, Row: d}
					s := leafWritten(area(from, to))
					if c >= a && d >= b {
						expect(t, s, area(from, to))
					} else {
						wrong(t, s, api.ErrForm)
					}
				}
			}
		}
	}
}

// 5.1: wrong inputs: what ends too soon, has a token too many, begins with what cannot begin.
func TestWrong(t *testing.T) {
	for _, s := range []string{"", " ", "(", ")", "()", "( )", "(1", "1)", "(1))", "((1)", ")1(", "1(", "1(2)", "(1)(2)", "1 2", "1 TRUE", "TRUE FALSE", `"a""b" "c"`, `"a" "b"`,
		",", "1,", ",1", "1,2", "1,,2", "+1", "*1", "/1", "&1", "=1", "==1", "1==1", "<1", "1<", "1<>", "1< >2", "1<= =2", "1=>2", "1><2", "1+", "1+*2", "1++2", "1*/2", "1+(2", "1+)",
		`1"+"2`, `"("1")"`, `F"("1)`, `F("1"","2)`, `A1":"B2`, `"-"1`, "1-", "#REF!#REF!", "#REF!1", "A1A", "1A", "1A1", "1F()"} {
		wrong(t, s, api.ErrForm)
	}
}

// 5.1: what layer 4 refuses, with its error, whatever stands ahead of it.
func TestLayer4(t *testing.T) {
	deep := strings.Repeat("(", api.MaxNest+1)
	for _, s := range []string{"a", "sum(1)", "01", "9223372036854775808", `"`, `"a`, "\"\n\"", "1\n", "#REF", "$", "A$", "?", "1;2", "\xff", "é", "1.5", "ABCDEFGHIJKLM(1)"} {
		for _, ahead := range []string{"", "1+", "1 ", ")", deep, "1 2 "} {
			if _, e := lex.Lex(ahead + s); e != api.ErrForm {
				t.Fatalf("4.1: %q: %d", ahead+s, e)
			}
			wrong(t, ahead+s, api.ErrForm)
		}
	}
	for _, s := range []string{" ", "(", "1", "-", "?", ")", "1+", "F("} {
		wrong(t, strings.Repeat(s, api.MaxCell+1), api.ErrLarge)
		wrong(t, strings.Repeat(s, 1<<16), api.ErrLarge)
	}
	blanks := strings.Repeat(" ", api.MaxCell-1)
	expect(t, blanks+"1", num(1))
	expect(t, "1"+blanks, num(1))
	wrong(t, blanks+" 1", api.ErrLarge)
	wrong(t, deep+blanks, api.ErrLarge)
	wrong(t, blanks+"(", api.ErrForm)
	row := strings.Repeat("1+", api.MaxCell/2-1) + "11"
	right(t, row)
	wrong(t, row+"1", api.ErrLarge)
	if l, _ := Parse(row); len(l) != api.MaxCell-1 {
		t.Error("5.2: as many nodes as may be:", len(l))
	}
}

// nests are what opens one level, and what ends it.
var nests = [...][2]string{{"(", ")"}, {"-", ""}, {"F(", ")"}, {"F(1,", ",2)"}}

// nested writes what is within some nests, the first one of them outermost.
func nested(within string, by ...int) string {
	ahead, behind := "", ""
	for _, i := range by {
		ahead, behind = ahead+nests[i][0], nests[i][1]+behind
	}
	return ahead + within + behind
}

// 5.1: 12 and 13 that are open, all of one kind.
func TestDeep(t *testing.T) {
	for i := range nests {
		for n := range 30 {
			s := nested("1", slices.Repeat([]int{i}, n)...)
			if n <= api.MaxNest {
				right(t, s)
				right(t, "1+"+s+"+1")
			} else {
				wrong(t, s, api.ErrDeep)
				wrong(t, "1+"+s, api.ErrDeep)
				wrong(t, "("+s+")", api.ErrDeep)
			}
		}
	}
	wrong(t, nested("F()", slices.Repeat([]int{0}, 12)...), api.ErrDeep)
	right(t, nested("F()", slices.Repeat([]int{0}, 11)...))
	wrong(t, nested("A1:B2", slices.Repeat([]int{1}, 13)...), api.ErrDeep)
	right(t, nested("A1:B2", slices.Repeat([]int{1}, 12)...))
	wrong(t, strings.Repeat("(", api.MaxCell), api.ErrDeep)
	wrong(t, strings.Repeat("-", api.MaxCell), api.ErrDeep)
	wrong(t, strings.Repeat("F(", api.MaxCell/2), api.ErrDeep)
}

// 5.1: mixtures that are 12 and 13 deep.
func TestDeepMixed(t *testing.T) {
	for seed := range 800 {
		var by []int
		for n := seed; len(by) < api.MaxNest; n = n*7/5 + 3 {
			by = append(by, n%len(nests))
		}
		s := nested("1", by...)
		right(t, s)
		right(t, s+"*"+s)
		for i := range nests {
			wrong(t, nested(nested("1", i), by...), api.ErrDeep)
			if beside := nested("1-"+nested("1", i), by...); nests[by[len(by)-1]][1] == "" {
				right(t, beside) // the sign ahead of the first 1 is no longer open
			} else {
				wrong(t, beside, api.ErrDeep)
			}
		}
	}
}

// 5.1: as many side by side; what stands behind a closed one is no deeper than what stood ahead of it.
func TestDeepBeside(t *testing.T) {
	for i := range nests {
		one := nested("1", i)
		for _, sign := range []string{"+", "*", "&", "=", "-"} {
			right(t, one+strings.Repeat(sign+one, 20))
		}
		right(t, "F("+one+strings.Repeat(","+one, 20)+")")
		for k := range nests {
			full := nested("1", slices.Repeat([]int{k}, api.MaxNest)...)
			right(t, one+"+"+full)
			right(t, full+"+"+one)
			right(t, full+"-"+full+"*"+full)
			most := nested("1", slices.Repeat([]int{k}, api.MaxNest-1)...)
			right(t, nested(most, i))
			right(t, nested("2", i)+"*"+nested(most, i)+"*"+nested("2", i))
			right(t, "("+most+"+"+most+")")
			right(t, "F("+most+","+most+")")
			right(t, "-"+most+"+"+full)
			right(t, "-"+one+"*"+full)
			wrong(t, "("+most+"+"+full+")", api.ErrDeep)
			wrong(t, "F("+most+","+full+")", api.ErrDeep)
			wrong(t, "F("+full+")", api.ErrDeep)
			wrong(t, "-"+full, api.ErrDeep)
			wrong(t, "1+-"+full, api.ErrDeep)
			wrong(t, "-("+most+"*"+full+")", api.ErrDeep)
		}
	}
}

// 5.1: of two faults the one of the first token counts, one of them too deep; of one token ErrForm is named first.
func TestFirstToken(t *testing.T) {
	open := strings.Repeat("(", api.MaxNest)
	for _, c := range []struct {
		s    string
		want api.Errno
	}{
		{open + "(", api.ErrDeep}, {open + ")", api.ErrForm}, {open + "()", api.ErrDeep}, {open + ")(", api.ErrForm}, {open + "-", api.ErrDeep}, {open + "-)", api.ErrDeep}, {open + "1(", api.ErrForm},
		{open + "1-1", api.ErrForm}, {open + "1--1", api.ErrDeep}, {open + "F(", api.ErrDeep}, {open + "F(,", api.ErrDeep}, {open + "F-", api.ErrForm}, {open + "F", api.ErrForm}, {open + "F)(", api.ErrForm},
		{open + "TRUE(", api.ErrForm}, {open + "A1(", api.ErrForm}, {open + "A1:(", api.ErrForm}, {open + "A1:-", api.ErrForm}, {open + "B2:A1-(", api.ErrForm}, {open + "A1:A1-(", api.ErrDeep},
		{open + "#REF!(", api.ErrForm}, {open + `"a"(`, api.ErrForm}, {open + "1 2 (", api.ErrForm}, {open + "1)(", api.ErrForm}, {open + "1)+(", api.ErrForm}, {open + "1)+((", api.ErrDeep},
		{open + "+(", api.ErrForm}, {open + ",(", api.ErrForm}, {open + ":(", api.ErrForm}, {open + "*-", api.ErrForm}, {open, api.ErrForm},
		{"1 2" + open + "(", api.ErrForm}, {")" + open + "(", api.ErrForm}, {"F " + open[1:], api.ErrForm}, {"F" + open, api.ErrForm}, {"F" + open + "(", api.ErrDeep}, {"TRUE" + open + "(", api.ErrForm},
		{"B1:A1" + open + "(", api.ErrForm}, {"1," + open + "(", api.ErrForm}, {"F(1,,)" + open + "(", api.ErrForm}, {"+" + open + "(", api.ErrForm}, {open + "(" + "1 2", api.ErrDeep},
		{open + "(" + "B1:A1", api.ErrDeep}, {open + "(" + ")", api.ErrDeep}, {strings.Repeat("-", 13), api.ErrDeep}, {strings.Repeat("-", 12), api.ErrForm}, {strings.Repeat("-", 12) + ")-", api.ErrForm},
		{strings.Repeat("-", 12) + "1-1", api.OK}, {strings.Repeat("-", 12) + "1--1", api.OK}, {strings.Repeat("-", 12) + "1-(((1)))", api.OK}, {strings.Repeat("-", 12) + "F-1", api.ErrForm},
		{strings.Repeat("-", 12) + "F()", api.ErrDeep}, {open + "(" + "\n", api.ErrForm}, {open + "(a", api.ErrForm},
	} {
		if c.want == api.OK {
			right(t, c.s)
		} else {
			wrong(t, c.s, c.want)
		}
	}
}

// allRows goes through all rows of some pieces, up to a number of them.
func allRows(pieces []string, most int, tell func(string)) {
	var more func(s string, n int)
	more = func(s string, n int) {
		tell(s)
		for _, piece := range pieces {
			if n < most {
				more(s+piece, n+1)
			}
		}
	}
	more("", 0)
}

// 5.1, 5.2: all short rows of tokens, alone and as deep as may be.
func TestAllShort(t *testing.T) {
	tell := func(s string) { check(t, s) }
	allRows([]string{"1", "A1", "F", "-", "+", "*", "&", "=", "(", ")", ",", ":", " TRUE", `"a"`, "#REF!"}, 4, tell)
	allRows([]string{"1", "-", "+", "*", "=", "(", ")"}, 6, tell)
	allRows([]string{"1", "F", "-", "(", ")", ","}, 7, tell)
	allRows([]string{"A1", " B2", "S!A2", ":", "-", "F("}, 6, tell)
	for _, ahead := range []string{strings.Repeat("(", 12), strings.Repeat("-", 12), strings.Repeat("F(", 11), strings.Repeat("-(", 5) + "F(1,"} {
		allRows([]string{"1", "F", "A1", "-", "+", "(", ")", ",", ":"}, 4, func(s string) { check(t, ahead+s) })
	}
}

// dice tells numbers that look like any, the same ones in every run.
type dice uint64

func (d *dice) below(n int) int {
	*d = *d*6364136223846793005 + 1442695040888963407
	return int(uint64(*d)>>33) % n
}

// 5.1: long rows of tokens, most of which may stand where they stand, so that faults come late.
func TestLongRows(t *testing.T) {
	operands := []string{"1", "A1", "B1:C2", "TRUE", `"a"`, "(", "-", "F(", "G(1,", "(", "-", "F("}
	behind := []string{"+", "*", "&", "=", "-", ")", ")", ")", ",", "+", "<>"}
	any := []string{"1", "A1", "S!B2", "F", "F()", ":", "(", ")", ",", "-", "/", "TRUE", " "}
	d := dice(5)
	for range 20000 {
		var b strings.Builder
		for range 5 + d.below(30) {
			from := behind
			if last := b.String(); last == "" || strings.ContainsRune("(-+*&=>,", rune(last[len(last)-1])) {
				from = operands
			}
			if d.below(40) == 0 {
				from = any
			}
			b.WriteString(from[d.below(len(from))])
		}
		s := b.String()
		check(t, s)
		ends := max(0, strings.Count(s, "(")-strings.Count(s, ")"))
		check(t, s+strings.Repeat(")", ends))
		check(t, s+"1"+strings.Repeat(")", ends))
	}
}

// grow makes a tree of a few nodes, at most so deep.
func grow(l []api.Node, d *dice, deep int) []api.Node {
	kids := []int{}
	kid := func() {
		l = grow(l, d, deep-1)
		kids = append(kids, len(l)-1)
	}
	switch n := d.below(4); {
	case deep == 0 || n == 0:
		from := api.Ref{Sheet: []string{"", "S1", "a"}[d.below(3)], Col: d.below(350), Row: d.below(500), AbsCol: d.below(2) == 0}
		to := api.Ref{Col: from.Col + d.below(3), Row: from.Row + d.below(3), AbsRow: d.below(2) == 0}
		some := []api.Node{num(d.below(1000)), text([]string{"", "a", `"`, "1"}[d.below(4)]), truth(d.below(2)), dead(), ref(from), area(from, to)}
		return append(l, some[d.below(len(some))])
	case n == 1:
		for range d.below(4) {
			kid()
		}
		return append(l, call([]string{"F", "SUM", "A0"}[d.below(3)], kids...))
	case d.below(4) == 0:
		kid()
		return append(l, neg(kids[0]))
	}
	kid()
	kid()
	return append(l, two(api.NEq+d.below(api.NDiv-api.NEq+1), kids[0], kids[1]))
}

// fullyWritten writes a tree with brackets around all but leaves and calls.
func fullyWritten(l []api.Node, i int) string {
	n := l[i]
	var kids []string
	for _, k := range n.Kids {
		kids = append(kids, fullyWritten(l, k))
	}
	switch rank(n) {
	case 6:
		if n.Kind == api.NCall {
			return n.Text + "( " + strings.Join(kids, " , ") + " )"
		}
		return leafWritten(n)
	case 5:
		return "(-" + kids[0] + ")"
	}
	return "(" + kids[0] + " " + signOf(n.Kind) + " " + kids[1] + ")"
}

// 5.1, 5.2: trees of all kinds, written as tight as may be and with all brackets, are read back.
func TestWritten(t *testing.T) {
	d := dice(1)
	read := 0
	for range 15000 {
		l := grow(nil, &d, 1+d.below(5))
		if !Tree(l) {
			t.Fatalf("5.2: Tree(%v) is false", l)
		}
		for _, s := range []string{written(l, len(l)-1, 0), fullyWritten(l, len(l)-1)} {
			if len(s) <= api.MaxCell {
				expect(t, s, l...)
				read++
			}
		}
	}
	if read < 20000 {
		t.Error("too few formulas were read:", read)
	}
}

// 5.1: formulas, cut, with a token more, with one less, with one of another kind.
func TestChanged(t *testing.T) {
	pieces := []string{"1", "A1", "S!B2", "F", "F(", "(", ")", ",", ":", "-", "+", "*", "&", "<=", " ", " TRUE", `"a"`, "#REF!", "?"}
	for _, s := range []string{"IF(A1<>\"a\"&B2,-S!B2:C3*2,#REF!)+1", "-(1+2*(3-4)/--5)>=F(G(),H(1,(2)),TRUE)", strings.Repeat("-(", 6) + "1" + strings.Repeat(")", 6) + "=F(1,2)"} {
		tokens, _ := lex.Lex(s)
		for i, token := range tokens {
			at := token.At
			check(t, s[:at])
			check(t, s[at:])
			for _, piece := range pieces {
				check(t, s[:at]+piece+s[at:])
				if i < len(tokens)-1 {
					check(t, s[:at]+piece+s[tokens[i+1].At:])
					check(t, s[:at]+s[tokens[i+1].At:])
				}
			}
		}
	}
}

// R3, R5: what is told is new memory each time, spare room too, and no two lists of it share any.
func TestNewMemory(t *testing.T) {
	const s = `F(1,A1:B2,"a"&TRUE,-2,G(),H(1,2,3,4,5))=F(1,2)`
	want, _ := theirs(s)
	first, _ := Parse(s)
	second, _ := Parse(s)
	for i := range second {
		second[i].Kids = append(second[i].Kids[:0], slices.Repeat([]int{-1}, cap(second[i].Kids))...)
		if n := second[i]; len(n.Kids) != cap(n.Kids) {
			t.Fatal("kids of", i)
		}
		for k := range second {
			if k > i && !slices.Equal(second[k].Kids, want[k].Kids) {
				t.Errorf("R3: the kids of %d lie in those of %d", k, i)
			}
		}
	}
	more := second[:cap(second)]
	for i := range more {
		more[i] = api.Node{Kind: -2}
	}
	third, e := Parse(s)
	if e != api.OK || !same(first, want) || !same(third, want) {
		t.Error("R3:", first, third)
	}
}
