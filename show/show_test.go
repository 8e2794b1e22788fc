package show

import (
	"math"
	"strconv"
	"strings"
	"testing"

	"chequer/addr"
	"chequer/api"
	"chequer/parse"
)

// brief cuts a text that is too long to be told.
func brief(s string) string {
	return s[:min(len(s), 400)]
}

// check holds a tree's text against another way of reading it, asks whether brackets are left that need not stand, and
// holds what Parse tells of it against the tree, or against the error that its length or depth asks for.
func check(t *testing.T, l []api.Node) {
	t.Helper()
	if !parse.Tree(l) {
		t.Fatalf("no tree: %v", l[:min(len(l), 8)])
	}
	s := Print(l)
	r, ok := read(s)
	if !ok || !same(r.nodes, l) {
		t.Fatalf("6.1, 5.3: %q is the text of another tree", brief(s))
	}
	checkBrackets(t, r)
	checkParse(t, r)
}

// checkBrackets takes each pair of brackets away.
func checkBrackets(t *testing.T, r *theirs) {
	t.Helper()
	if len(r.text) > 500 {
		return
	}
	for _, p := range r.pairs {
		s := r.text[:p[0]] + r.text[p[0]+1:p[1]] + r.text[p[1]+1:]
		if less, ok := read(s); ok && same(less.nodes, r.nodes) {
			t.Fatalf("6.1: %q has brackets that need not stand: so has not %q", r.text, s)
		}
	}
}

// checkParse holds what Parse tells of a text against what it says.
func checkParse(t *testing.T, r *theirs) {
	t.Helper()
	want := api.OK
	switch {
	case len(r.text) > api.MaxCell:
		want = api.ErrLarge
	case r.deepest > api.MaxNest:
		want = api.ErrDeep
	}
	l, e := parse.Parse(r.text)
	if e != want || e == api.OK && !same(l, r.nodes) {
		t.Fatalf("6.2: Parse of %q: %v, %d", brief(r.text), l, e)
	}
}

// expect holds a tree's text against one that is written out.
func expect(t *testing.T, want string, l []api.Node) {
	t.Helper()
	if s := Print(l); s != want {
		t.Errorf("6.1: %q, not %q", brief(s), brief(want))
	}
	check(t, l)
}

// leaf expects a text of a node, alone and within others.
func leaf(t *testing.T, want string, n api.Node) {
	t.Helper()
	l := one(n)
	expect(t, want, l)
	expect(t, "-"+want, minus(l))
	expect(t, "F("+want+")", fun("F", l))
	expect(t, "F("+want+","+want+")", fun("F", l, l))
	for _, o := range allOperators() {
		expect(t, want+o.sign+want, of(o.kind, l, l))
	}
}

// in tells s in brackets, if they must stand.
func in(s string, must bool) string {
	if must {
		return "(" + s + ")"
	}
	return s
}

// 6.1: numbers from 0 to the greatest one, decimal.
func TestNumbers(t *testing.T) {
	for n, want := range map[int]string{0: "0", 1: "1", 9: "9", 10: "10", 100: "100", 1000000: "1000000", 1<<32 + 1: "4294967297",
		math.MaxInt64 - 1: "9223372036854775806", math.MaxInt64: "9223372036854775807"} {
		leaf(t, want, num(n))
	}
	for n := range 3000 {
		expect(t, strconv.Itoa(n), one(num(n)))
	}
	expect(t, "-9223372036854775807", minus(one(num(math.MaxInt64))))
}

// 6.1: texts in marks, each mark of them twice; every byte from 32 on as it is.
func TestTexts(t *testing.T) {
	for s, want := range map[string]string{"": `""`, " ": `" "`, "a": `"a"`, "a b  c ": `"a b  c "`, `"`: `""""`, `""`: `""""""`, `a"b`: `"a""b"`, `"a`: `"""a"`, `a"`: `"a"""`,
		`a"""b"`: `"a""""""b"""`, "1": `"1"`, "A1": `"A1"`, "TRUE": `"TRUE"`, "#REF!": `"#REF!"`, "(1+2)": `"(1+2)"`, ",": `","`, "-": `"-"`,
		"é": `"é"`, "\xff\x80": "\"\xff\x80\"", "\x7f": "\"\x7f\"", `\n`: `"\n"`, "'": `"'"`} {
		leaf(t, want, text(s))
	}
	for i := 32; i < 256; i++ {
		c := string([]byte{byte(i)})
		twice := c
		if c == `"` {
			twice = c + c
		}
		leaf(t, `"`+twice+`"`, text(c))
		expect(t, `"a`+twice+"b"+twice+twice+`"`, one(text("a"+c+"b"+c+c)))
	}
}

// 6.1: truths and dead references.
func TestWords(t *testing.T) {
	leaf(t, "TRUE", truth(1))
	leaf(t, "FALSE", truth(0))
	leaf(t, "#REF!", dead())
}

// 6.1: references and ranges as layer 3 writes them, with and without sheets and marks.
func TestPlaces(t *testing.T) {
	leaf(t, "A1", ref(api.Ref{}))
	leaf(t, "ZZ999", ref(api.Ref{Col: 701, Row: 998}))
	leaf(t, "S1!$B3", ref(api.Ref{Sheet: "S1", Col: 1, Row: 2, AbsCol: true}))
	leaf(t, "A1:B2", area(api.Ref{}, api.Ref{Col: 1, Row: 1}))
	leaf(t, "A1:A1", area(api.Ref{}, api.Ref{}))
	leaf(t, "S1!$A1:B$2", area(api.Ref{Sheet: "S1", AbsCol: true}, api.Ref{Col: 1, Row: 1, AbsRow: true}))
	leaf(t, "ZZ999:$ZZ$999", area(api.Ref{Col: 701, Row: 998}, api.Ref{Col: 701, Row: 998, AbsCol: true, AbsRow: true}))
	leaf(t, "TRUE!A1:ZZ999", area(api.Ref{Sheet: "TRUE"}, api.Ref{Col: 701, Row: 998}))
	for i := range 16 {
		from := api.Ref{Col: 1, Row: 2, AbsCol: i&1 > 0, AbsRow: i&2 > 0}
		to := api.Ref{Col: 27, Row: 9, AbsCol: i&4 > 0, AbsRow: i&8 > 0}
		for _, sheet := range []string{"", "S", "s1", "A1", "FALSE", "abcdefghijkl"} {
			from.Sheet = sheet
			leaf(t, addr.Text(from), ref(from))
			leaf(t, addr.Text(from)+":"+addr.Text(to), area(from, to))
		}
	}
}

// 6.1: each operator, alone and several of them in a row, from the left and from the right.
func TestOperators(t *testing.T) {
	a, b, c, d := one(num(1)), one(num(2)), one(num(3)), one(num(4))
	for _, o := range allOperators() {
		s := o.sign
		expect(t, "1"+s+"2", of(o.kind, a, b))
		expect(t, "1"+s+"2"+s+"3", of(o.kind, of(o.kind, a, b), c))
		expect(t, "1"+s+"(2"+s+"3)", of(o.kind, a, of(o.kind, b, c)))
		expect(t, "1"+s+"2"+s+"3"+s+"4", of(o.kind, of(o.kind, of(o.kind, a, b), c), d))
		expect(t, "1"+s+"(2"+s+"(3"+s+"4))", of(o.kind, a, of(o.kind, b, of(o.kind, c, d))))
		expect(t, "1"+s+"2"+s+"(3"+s+"4)", of(o.kind, of(o.kind, a, b), of(o.kind, c, d)))
		expect(t, "1"+s+"(2"+s+"3"+s+"4)", of(o.kind, a, of(o.kind, of(o.kind, b, c), d)))
		expect(t, "1"+s+"(2"+s+"3)"+s+"4", of(o.kind, of(o.kind, a, of(o.kind, b, c)), d))
	}
}

// 6.1: each operator beside each other one: a left operand in brackets, if its rank is lower, a right one, if its rank
// is not higher.
func TestRanks(t *testing.T) {
	a, b, c := one(num(1)), one(num(2)), one(num(3))
	for _, o := range allOperators() {
		for _, p := range allOperators() {
			s, s2 := "1"+p.sign+"2", "2"+p.sign+"3"
			expect(t, in(s, p.rank < o.rank)+o.sign+"3", of(o.kind, of(p.kind, a, b), c))
			expect(t, "1"+o.sign+in(s2, p.rank <= o.rank), of(o.kind, a, of(p.kind, b, c)))
			expect(t, in(s, p.rank < o.rank)+o.sign+in(s2, p.rank <= o.rank), of(o.kind, of(p.kind, a, b), of(p.kind, b, c)))
			expect(t, "-(1"+o.sign+in(s2, p.rank <= o.rank)+")", minus(of(o.kind, a, of(p.kind, b, c))))
			expect(t, "-"+in(s, true)+o.sign+"3", of(o.kind, minus(of(p.kind, a, b)), c))
			expect(t, "F("+s+")"+o.sign+"F("+s2+")", of(o.kind, fun("F", of(p.kind, a, b)), fun("F", of(p.kind, b, c))))
			expect(t, "F(1"+o.sign+in(s2, p.rank <= o.rank)+","+s+")", fun("F", of(o.kind, a, of(p.kind, b, c)), of(p.kind, a, b)))
			for _, q := range allOperators() {
				check(t, of(o.kind, of(p.kind, a, of(q.kind, b, c)), of(q.kind, of(o.kind, a, b), of(p.kind, b, c))))
				check(t, of(o.kind, minus(of(p.kind, a, b)), of(q.kind, minus(b), minus(of(o.kind, b, c)))))
			}
		}
	}
}

// 6.1: a `-` ahead of each rank, and as an operand.
func TestSignsAhead(t *testing.T) {
	a, b := one(num(1)), one(num(2))
	expect(t, "-1", minus(a))
	expect(t, "--1", minus(minus(a)))
	expect(t, "---1", minus(minus(minus(a))))
	expect(t, "-F()", minus(fun("F")))
	expect(t, "-F(-1)", minus(fun("F", minus(a))))
	for _, o := range allOperators() {
		expect(t, "-(1"+o.sign+"2)", minus(of(o.kind, a, b)))
		expect(t, "--(1"+o.sign+"2)", minus(minus(of(o.kind, a, b))))
		expect(t, "-1"+o.sign+"2", of(o.kind, minus(a), b))
		expect(t, "1"+o.sign+"-2", of(o.kind, a, minus(b)))
		expect(t, "-1"+o.sign+"-2", of(o.kind, minus(a), minus(b)))
		expect(t, "--1"+o.sign+"--2", of(o.kind, minus(minus(a)), minus(minus(b))))
		expect(t, "-(-1"+o.sign+"-2)", minus(of(o.kind, minus(a), minus(b))))
		expect(t, "-1"+o.sign+"(-2"+o.sign+"-1)", of(o.kind, minus(a), of(o.kind, minus(b), minus(a))))
	}
}

// 6.1: calls with no argument, with one, with several, within calls, as operands; arguments stand without brackets.
func TestCalls(t *testing.T) {
	a, b := one(num(1)), one(num(2))
	for _, name := range []string{"F", "SUM", "A0", "AAA1", "A1000", "TRUE1", "TRU", "ABCDEFGHIJKL", "A12345678901"} {
		leaf(t, name+"()", call(name))
		expect(t, name+"(1)", fun(name, a))
		expect(t, name+"(1,2,1)", fun(name, a, b, a))
		expect(t, name+"("+name+"(1),"+name+"(),2)", fun(name, fun(name, a), fun(name), b))
	}
	f := fun("F", a, fun("G", b, fun("H")))
	expect(t, "F(1,G(2,H()))", f)
	expect(t, "-F(1,G(2,H()))", minus(f))
	expect(t, "F(-1,--2)", fun("F", minus(a), minus(minus(b))))
	for _, o := range allOperators() {
		expect(t, "F(1,G(2,H()))"+o.sign+"F(1,G(2,H()))", of(o.kind, f, f))
		expect(t, "F(1"+o.sign+"2)", fun("F", of(o.kind, a, b)))
		expect(t, "F(1"+o.sign+"2,-1,1"+o.sign+"2)", fun("F", of(o.kind, a, b), minus(a), of(o.kind, a, b)))
		expect(t, "F(G(1"+o.sign+"2)"+o.sign+"2)", fun("F", of(o.kind, fun("G", of(o.kind, a, b)), b)))
	}
	args := make([][]api.Node, 140)
	for i := range args {
		args[i] = one(num(i % 10))
	}
	expect(t, "F("+strings.Repeat("0,1,2,3,4,5,6,7,8,9,", 14)[:279]+")", fun("F", args...))
}

// 6.1: what is written with blanks and brackets that need not stand is told without them.
func TestParsed(t *testing.T) {
	for s, want := range map[string]string{
		"( 1 + 2 ) * 3": "(1+2)*3", " ((1)) + ((2 * 3)) ": "1+2*3", "((1-2)-3)-(4-5)": "1-2-3-(4-5)", `IF( (A1 <> "a b") , (TRUE) , - ( #REF! ) )`: `IF(A1<>"a b",TRUE,-#REF!)`,
		"1 = (2 & (3 + (4 * (- 5))))": "1=2&3+4*-5", "((((1=2)&3)+4)*5)": "(((1=2)&3)+4)*5", "-(-(-(1)))": "---1", "F ( ) & ( G( ( S1 ! A1 ) ) )": "",
		"SUM( S1!$A$1 : B2 , (3) )": "SUM(S1!$A$1:B2,3)", "(1<2)=(3<4)": "1<2=(3<4)", "2/(3/4)/(5)": "2/(3/4)/5",
	} {
		l, e := parse.Parse(s)
		if (e != api.OK) != (want == "") {
			t.Fatalf("%q: %d", s, e)
		}
		if e == api.OK {
			expect(t, want, l)
		}
	}
}
