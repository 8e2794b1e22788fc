package parse

import (
	"math"
	"slices"
	"strings"
	"testing"

	"chequer/api"
)

// isTree expects that a list is one that Parse could tell.
func isTree(t *testing.T, l ...api.Node) {
	t.Helper()
	if !Tree(l) {
		t.Errorf("5.2: Tree(%v) is false", show(l))
	}
}

// noTree expects that it is none.
func noTree(t *testing.T, l ...api.Node) {
	t.Helper()
	if Tree(l) {
		t.Errorf("5.2: Tree(%v) is true", show(l))
	}
}

// show tells the first few nodes of a list.
func show(l []api.Node) []api.Node {
	return l[:min(len(l), 8)]
}

// onlyNode expects of a node that is a list of its own whether that is a tree; and of one with it among others.
func onlyNode(t *testing.T, n api.Node, want bool) {
	t.Helper()
	f := isTree
	if !want {
		f = noTree
	}
	f(t, n)
	f(t, n, neg(0))
	f(t, num(1), n, two(api.NAdd, 0, 1))
	f(t, num(1), neg(0), n, call("F", 1, 2))
	f(t, n, num(1), two(api.NAdd, 0, 1), num(2), two(api.NMul, 2, 3))
}

// kinds are nodes of all of them, without kids.
func kinds() []api.Node {
	r := api.Ref{Sheet: "S", Col: 1, Row: 2, AbsRow: true}
	l := []api.Node{num(1), text("a"), truth(1), dead(), ref(r), area(r, api.Ref{Col: 1, Row: 3, AbsCol: true}), call("F"), {Kind: api.NNeg}}
	for kind := api.NEq; kind <= api.NDiv; kind++ {
		l = append(l, api.Node{Kind: kind})
	}
	return l
}

// withKids lays a node behind as many leaves, which are its kids.
func withKids(n api.Node, kids int) []api.Node {
	var l []api.Node
	for i := range kids {
		l = append(l, num(i))
		n.Kids = append(slices.Clone(n.Kids), i)
	}
	return append(l, n)
}

// mayHave tells whether a kind may have so many kids, as the document tells it.
func mayHave(kind, kids int) bool {
	switch {
	case kind <= api.NRange:
		return kids == 0
	case kind == api.NCall:
		return true
	case kind == api.NNeg:
		return kids == 1
	}
	return kids == 2
}

// 5.2: every kind with none to five kids.
func TestTreeKids(t *testing.T) {
	if len(kinds()) != api.NDiv {
		t.Fatal("kinds:", len(kinds()))
	}
	for _, n := range kinds() {
		for kids := range 6 {
			if mayHave(n.Kind, kids) {
				isTree(t, withKids(n, kids)...)
			} else {
				noTree(t, withKids(n, kids)...)
			}
		}
	}
	isTree(t, withKids(call("F"), 1000)...)
}

// 5.2: kinds that there are not, with any number of kids, whatever their fields.
func TestTreeKinds(t *testing.T) {
	for _, kind := range []int{0, -1, -2, -7, -8, -16, -19, 20, 21, 22, 100, 256, 256 + api.NNum, 1<<32 + api.NDead, math.MaxInt, math.MinInt, math.MinInt + 1} {
		for _, n := range kinds() {
			n.Kind = kind
			for kids := range 4 {
				noTree(t, withKids(n, kids)...)
				noTree(t, append(withKids(n, kids), neg(kids))...)
			}
		}
	}
}

// 5.2: every field of every kind that must be zero and isn't.
func TestTreeFields(t *testing.T) {
	r := api.Ref{Col: 1}
	has := func(kinds ...int) []int { return kinds }
	fields := []struct {
		kinds []int
		set   func(n *api.Node)
	}{
		{has(api.NNum, api.NBool), func(n *api.Node) { n.Num = 1 }},
		{has(api.NNum), func(n *api.Node) { n.Num = 2 }},
		{has(), func(n *api.Node) { n.Num = -1 }},
		{has(api.NNum), func(n *api.Node) { n.Num = math.MaxInt }},
		{has(), func(n *api.Node) { n.Num = math.MinInt }},
		{has(api.NText, api.NCall), func(n *api.Node) { n.Text = "F" }},
		{has(api.NText), func(n *api.Node) { n.Text = " " }},
		{has(), func(n *api.Node) { n.Text = "\x00" }},
		{has(api.NRef), func(n *api.Node) { n.Ref = r }},
		{has(api.NRef), func(n *api.Node) { n.Ref = api.Ref{Row: 1} }},
		{has(api.NRef, api.NRange), func(n *api.Node) { n.Ref = api.Ref{Sheet: "S"} }},
		{has(api.NRef, api.NRange), func(n *api.Node) { n.Ref = api.Ref{AbsCol: true} }},
		{has(api.NRef, api.NRange), func(n *api.Node) { n.Ref = api.Ref{AbsRow: true} }},
		{has(api.NRange), func(n *api.Node) { n.To = r }},
		{has(api.NRange), func(n *api.Node) { n.To = api.Ref{Row: 1} }},
		{has(api.NRange), func(n *api.Node) { n.To = api.Ref{AbsCol: true} }},
		{has(api.NRange), func(n *api.Node) { n.To = api.Ref{AbsRow: true} }},
		{has(), func(n *api.Node) { n.To = api.Ref{Sheet: "S"} }},
	}
	for _, base := range kinds() {
		base = api.Node{Kind: base.Kind}
		if base.Kind == api.NCall {
			base.Text = "F"
		}
		for _, f := range fields {
			n := base
			f.set(&n)
			for kids := range 4 {
				want := slices.Contains(f.kinds, n.Kind) && mayHave(n.Kind, kids)
				if Tree(withKids(n, kids)) != want {
					t.Errorf("5.2: Tree(%v): %v", withKids(n, kids), !want)
				}
			}
		}
		for kids := range 4 {
			if want := mayHave(base.Kind, kids); Tree(withKids(base, kids)) != want {
				t.Errorf("5.2: Tree(%v): %v", withKids(base, kids), !want)
			}
		}
	}
}

// 5.2: numbers and truths.
func TestTreeNumbers(t *testing.T) {
	for _, n := range []int{0, 1, 2, 3, 10, 255, 256, 1 << 31, 1 << 32, 1<<32 + 1, math.MaxInt - 1, math.MaxInt} {
		onlyNode(t, num(n), true)
		onlyNode(t, truth(n), n < 2)
	}
	for _, n := range []int{-1, -2, -10, -1 << 32, math.MinInt, math.MinInt + 1} {
		onlyNode(t, num(n), false)
		onlyNode(t, truth(n), false)
	}
}

// 5.2: texts of bytes from 32 on, of any length.
func TestTreeTexts(t *testing.T) {
	for _, s := range []string{"", " ", "a", `"`, `""`, "#REF!", "A1", "é", "\x7f\x80\xff", strings.Repeat("x", api.MaxCell+1), strings.Repeat(`"`, 1<<20)} {
		onlyNode(t, text(s), true)
	}
	for i := range 256 {
		c := string([]byte{byte(i)})
		for _, s := range []string{c, "a" + c, c + "a", "é" + c + "b", strings.Repeat("a", 1000) + c} {
			onlyNode(t, text(s), i >= 32)
		}
	}
}

// 5.2: names as layer 4 has them, that are no references, nor TRUE, nor FALSE.
func TestTreeNames(t *testing.T) {
	for _, s := range []string{"A", "Z", "F", "SUM", "F9X", "A0", "A00", "A01", "AAA1", "ABC1", "A1000", "ZZ1000", "A1A", "A1B2", "TRU", "TRUES", "TRUE1", "FALS", "FALSE0", "XTRUE",
		"ABCDEFGHIJKL", "A12345678901"} {
		onlyNode(t, call(s), true)
		isTree(t, num(1), call(s, 0))
	}
	for _, s := range []string{"", "f", "Sum", "sum", "SUm", "A1", "F9", "Z99", "ZZ999", "AA1", "$A1", "A$1", "$A$1", "S!A1", "SUM!A1", "TRUE", "FALSE", "1", "1A", "12", "#REF!", `"F"`, `"a"`, "+", "(", "F(",
		"F()", " F", "F ", " F ", "F F", "F G", "F+", "-F", "F1 ", "F,G", "F:G", "F\n", "\x00", "F\x00", "F!", "$F", "F$", "$", "!", "F_", "F.G", "É", "Fé", "F\xff", "ABCDEFGHIJKLM", "A123456789012",
		strings.Repeat("A", 300), strings.Repeat("A", 301), " " + strings.Repeat("A", 12), strings.Repeat(" ", 300), strings.Repeat("A", 1<<20)} {
		onlyNode(t, call(s), false)
		noTree(t, num(1), call(s, 0))
	}
	for i := range 256 {
		c := string([]byte{byte(i)})
		capital, digit := 'A' <= i && i <= 'Z', '0' <= i && i <= '9'
		onlyNode(t, call(c), capital)
		onlyNode(t, call("AAA"+c), capital || digit)
		onlyNode(t, call("ABCDEFGHIJK"+c), capital || digit)
		onlyNode(t, call("A"+c), capital || c == "0")
	}
}

// 5.2: references that may be, as ones alone and as corners of ranges, and those that may not.
func TestTreeRefs(t *testing.T) {
	good := []api.Ref{{}, {Col: 701, Row: 998}, {Sheet: "S1", Col: 3, Row: 4}, {Sheet: "abcdefghijkl"}, {AbsCol: true}, {AbsRow: true, AbsCol: true, Sheet: "TRUE"}, {Sheet: "A1"}}
	bad := []api.Ref{{Col: -1}, {Row: -1}, {Col: 702}, {Row: 999}, {Col: math.MinInt}, {Col: math.MaxInt}, {Row: math.MinInt}, {Row: math.MaxInt}, {Col: 1 << 32}, {Row: 1 << 32},
		{Sheet: "1"}, {Sheet: "abcdefghijklm"}, {Sheet: "a b"}, {Sheet: "S!"}, {Sheet: " "}, {Sheet: "é"}}
	for _, r := range good {
		to := r
		to.Sheet = ""
		onlyNode(t, ref(r), true)
		onlyNode(t, area(r, to), true)
		onlyNode(t, area(r, api.Ref{Col: 701, Row: 998, AbsCol: true}), true)
		onlyNode(t, area(r, api.Ref{Sheet: "S", Col: 701, Row: 998}), false)
		onlyNode(t, api.Node{Kind: api.NRef, Ref: r, To: api.Ref{AbsRow: true}}, false)
		for _, b := range bad {
			onlyNode(t, area(r, b), false)
		}
	}
	for _, b := range bad {
		onlyNode(t, ref(b), false)
		onlyNode(t, area(b, api.Ref{Col: 701, Row: 998}), false)
		onlyNode(t, area(b, api.Ref{Col: b.Col, Row: b.Row}), false)
	}
	some := []int{-1, 0, 1, 2, 500, 701, 702, 998, 999}
	for _, a := range some {
		for _, b := range some {
			for _, c := range some {
				for _, d := range some {
					want := 0 <= a && a <= c && c <= 701 && 0 <= b && b <= d && d <= 998
					onlyNode(t, area(api.Ref{Sheet: "S", Col: a, Row: b}, api.Ref{Col: c, Row: d}), want)
				}
			}
		}
	}
}

// 5.2: each node but the last one a kid just once, in post order.
func TestTreeOrder(t *testing.T) {
	noTree(t)
	noTree(t, []api.Node{}...)
	noTree(t, num(1), num(2))
	noTree(t, num(1), num(2), neg(1))
	noTree(t, num(1), num(2), neg(0))
	noTree(t, num(1), neg(0), num(2))
	noTree(t, num(1), neg(0), neg(0))
	noTree(t, num(1), neg(1))
	noTree(t, num(1), neg(2))
	noTree(t, num(1), neg(-1))
	noTree(t, neg(0))
	noTree(t, neg(1), num(1))
	noTree(t, neg(1), neg(0))
	noTree(t, two(api.NAdd, 1, 2), num(1), num(2))
	noTree(t, num(1), two(api.NAdd, 0, 2), num(2))
	noTree(t, num(1), num(2), two(api.NAdd, 1, 0))
	noTree(t, num(1), num(2), two(api.NAdd, 0, 0))
	noTree(t, num(1), num(2), two(api.NAdd, 1, 1))
	noTree(t, num(1), two(api.NAdd, 0, 0))
	noTree(t, num(1), num(2), num(3), two(api.NAdd, 0, 1), two(api.NAdd, 2, 3))
	noTree(t, num(1), num(2), num(3), two(api.NAdd, 0, 2), two(api.NAdd, 1, 3))
	noTree(t, num(1), num(2), neg(0), two(api.NAdd, 1, 2))
	noTree(t, num(1), num(2), neg(0), two(api.NAdd, 2, 1))
	noTree(t, num(1), num(2), num(3), two(api.NAdd, 1, 2), neg(3))
	noTree(t, num(1), num(2), num(3), call("F", 0, 2))
	noTree(t, num(1), num(2), num(3), call("F", 1, 0, 2))
	noTree(t, num(1), num(2), num(3), call("F", 0, 1))
	noTree(t, num(1), num(2), num(3), call("F", 0, 1, 2, 3))
	noTree(t, num(1), num(2), num(3), call("F", 0, 1, 2, 2))
	noTree(t, num(1), num(2), two(api.NAdd, 0, 1), num(3))
	noTree(t, num(1), two(api.NAdd, math.MinInt, 0), num(3))
	noTree(t, num(1), num(2), two(api.NAdd, math.MaxInt, 1))
	noTree(t, num(1), num(2), two(api.NAdd, 0, 1<<32+1))
	isTree(t, num(1), num(2), num(3), two(api.NAdd, 1, 2), two(api.NAdd, 0, 3))
	isTree(t, num(1), num(2), two(api.NAdd, 0, 1), num(3), two(api.NAdd, 2, 4-1))
	isTree(t, num(1), neg(0), num(2), call("G"), call("F", 1, 2, 3), neg(4))
}

// 5.2: all short lists of calls with any kids, held against a walk from the root on.
func TestTreeAllSmall(t *testing.T) {
	count := 0
	all := func(n, most, places int) {
		kids := [][]int{{}}
		for i := 0; i < len(kids); i++ {
			for k := -1; k < places && len(kids[i]) < most; k++ {
				kids = append(kids, append(slices.Clone(kids[i]), k))
			}
		}
		l := make([]api.Node, n)
		var more func(i int)
		more = func(i int) {
			if i == n {
				want := theirTree(l)
				if Tree(l) != want {
					t.Fatalf("5.2: Tree(%v): %v", l, !want)
				}
				if want {
					count++
				}
				return
			}
			for _, k := range kids {
				l[i] = call("F", k...)
				more(i + 1)
			}
		}
		more(0)
	}
	all(1, 3, 3)
	all(2, 3, 4)
	all(3, 2, 4)
	all(4, 2, 3)
	if count != 1+1+2+4 {
		t.Error("5.2: trees:", count)
	}
}

// 5.2: trees with one change are none any more, or a walk from the root finds one.
func TestTreeChanged(t *testing.T) {
	d := dice(9)
	for range 3000 {
		l := grow(nil, &d, 4)
		n := len(l)
		isTree(t, l...)
		for i := range l {
			noTree(t, slices.Insert(slices.Clone(l), i, num(1))...)
			noTree(t, slices.Insert(slices.Clone(l), i+1, num(1))...)
			changed := slices.Clone(l)
			k := d.below(n)
			changed[i], changed[k] = changed[k], changed[i]
			for _, other := range [][]api.Node{changed, slices.Delete(slices.Clone(l), i, i+1)} {
				if Tree(other) != theirTree(other) {
					t.Fatalf("5.2: Tree(%v): %v", other, Tree(other))
				}
			}
			for at := range l[i].Kids {
				changed := slices.Clone(l)
				changed[i].Kids = slices.Clone(l[i].Kids)
				if changed[i].Kids[at] = d.below(n+2) - 1; changed[i].Kids[at] != l[i].Kids[at] {
					noTree(t, changed...)
				}
				changed[i].Kids = slices.Delete(slices.Clone(l[i].Kids), at, at+1)
				noTree(t, changed...)
				changed[i].Kids = slices.Insert(slices.Clone(l[i].Kids), at, l[i].Kids[at])
				noTree(t, changed...)
			}
		}
	}
}

// 5.2: lists that are longer and deeper than any text of a cell, and with one fault.
func TestTreeLong(t *testing.T) {
	const n = 1 << 17
	chain := []api.Node{num(1)}
	left := []api.Node{num(1)}
	calls := []api.Node{call("F")}
	for i := range n {
		chain = append(chain, neg(i))
		left = append(left, num(1), two(api.NAdd, 2*i, 2*i+1))
		calls = append(calls, call("F", i))
	}
	right := slices.Repeat([]api.Node{num(1)}, n)
	for i := range n - 1 {
		right = append(right, two(api.NSub, n-2-i, n-1+i))
	}
	right[n].Kids = []int{n - 2, n - 1}
	wide := wideCall(n)
	for _, l := range [][]api.Node{left, right, wide} {
		noTree(t, l[:len(l)-1]...)
	}
	for _, l := range [][]api.Node{chain, left, calls, right, wide} {
		isTree(t, l...)
		noTree(t, append(slices.Clone(l), num(1))...)
		noTree(t, append([]api.Node{num(1)}, l...)...)
		for _, at := range []int{0, 1, n / 2, len(l) - 1} {
			bad := slices.Clone(l)
			bad[at].Num = -1
			noTree(t, bad...)
			bad = slices.Clone(l)
			bad[at].Kids = append(slices.Clone(l[at].Kids), 0)
			noTree(t, bad...)
		}
	}
}

// wideCall is one with so many arguments.
func wideCall(n int) []api.Node {
	l := slices.Repeat([]api.Node{num(1)}, n)
	kids := make([]int, n)
	for i := range kids {
		kids[i] = i
	}
	return append(l, call("F", kids...))
}

// R3: what is handed in is not changed, nor is it kept.
func TestTreeHandedIn(t *testing.T) {
	l := []api.Node{num(1), num(2), num(3), call("F", 1, 2), two(api.NAdd, 0, 3)}
	room := slices.Grow(slices.Clone(l), 5)
	isTree(t, room...)
	if !same(room, l) || room[:cap(room)][len(l)].Kind != 0 {
		t.Error("R3:", room)
	}
	room[3].Kids[0] = 2
	noTree(t, room...)
	l[3].Kids[0] = 1
	isTree(t, l...)
}
