package show

import (
	"math"
	"slices"
	"strings"
	"testing"

	"chequer/api"
	"chequer/parse"
)

// smallTrees are all trees of up to so many nodes, of some kinds of each rank, each with different numbers of kids.
func smallTrees(most int) [][][]api.Node {
	kinds := []int{api.NEq, api.NLt, api.NCat, api.NAdd, api.NSub, api.NMul, api.NDiv}
	all := [][][]api.Node{nil, {one(num(1)), fun("F")}}
	for n := 2; n <= most; n++ {
		var l [][]api.Node
		for _, a := range all[n-1] {
			l = append(l, minus(a), fun("F", a))
		}
		for i := 1; i < n-1; i++ {
			for _, a := range all[i] {
				for _, b := range all[n-1-i] {
					for _, kind := range kinds {
						l = append(l, of(kind, a, b))
					}
					l = append(l, fun("F", a, b))
				}
			}
		}
		all = append(all, append(l, callsOfThree(all, n-1)...))
	}
	return all
}

// callsOfThree are calls of three trees that have so many nodes.
func callsOfThree(all [][][]api.Node, nodes int) [][]api.Node {
	var l [][]api.Node
	for i := 1; i < nodes; i++ {
		for k := 1; i+k < nodes; k++ {
			for _, a := range all[i] {
				for _, b := range all[k] {
					for _, c := range all[nodes-i-k] {
						l = append(l, fun("F", a, b, c))
					}
				}
			}
		}
	}
	return l
}

// 6.1, 6.2, 5.3: all small trees: each has a text of its own.
func TestAllSmall(t *testing.T) {
	told := map[string]int{}
	count := 0
	for _, trees := range smallTrees(7) {
		for _, l := range trees {
			check(t, l)
			told[Print(l)]++
			count++
		}
	}
	if len(told) != count || count < 100000 {
		t.Errorf("5.3: %d texts of %d trees", len(told), count)
	}
}

// 6.1, 6.2, 5.3: trees of all kinds, many of them longer or deeper than may be.
func TestAny(t *testing.T) {
	d := dice(1)
	var ends [api.ErrDeep + 1]int
	for range 8000 {
		l := anyTree(&d, 1+d.below(7))
		for range d.below(14) {
			l = nests()[d.below(len(nests()))](l)
		}
		check(t, l)
		_, e := parse.Parse(Print(l))
		ends[e]++
	}
	for _, e := range []api.Errno{api.OK, api.ErrLarge, api.ErrDeep} {
		if ends[e] < 20 {
			t.Error("too few trees of one end:", e, ends[e])
		}
	}
}

// 5.3: two trees that differ in one field have two texts.
func TestTold(t *testing.T) {
	d := dice(3)
	for range 5000 {
		l := anyTree(&d, 1+d.below(5))
		for i := range l {
			other := slices.Clone(l)
			n := anyLeaf(&d)
			if len(l[i].Kids) == len(n.Kids) {
				other[i] = n
			} else {
				other[i].Kind, other[i].Text = 1+d.below(api.NDiv), []string{"", "F", "G"}[d.below(3)]
			}
			if parse.Tree(other) && (Print(other) == Print(l)) != same(other, l) {
				t.Fatalf("5.3: %v and %v: %q", l, other, Print(l))
			}
		}
	}
}

// 6.1, 5.3: of words that are texts, names, references, truths each has a text of its own.
func TestToldLeaves(t *testing.T) {
	leaves := []api.Node{num(0), num(1), num(10), text(""), text("0"), text("1"), text("TRUE"), text("A1"), text("#REF!"), text(`"`), text(`""`), text(`"TRUE"`), text("F()"), text(" "), text("  "),
		truth(0), truth(1), dead(), ref(api.Ref{}), ref(api.Ref{Row: 9}), ref(api.Ref{Col: 26}), ref(api.Ref{AbsCol: true}), ref(api.Ref{AbsRow: true}), ref(api.Ref{AbsCol: true, AbsRow: true}),
		ref(api.Ref{Sheet: "S"}), ref(api.Ref{Sheet: "s"}), ref(api.Ref{Sheet: "A1"}), ref(api.Ref{Sheet: "TRUE"}), area(api.Ref{}, api.Ref{}), area(api.Ref{AbsCol: true}, api.Ref{}), area(api.Ref{}, api.Ref{AbsCol: true}),
		area(api.Ref{}, api.Ref{AbsRow: true}), area(api.Ref{Sheet: "S"}, api.Ref{}), area(api.Ref{}, api.Ref{Col: 1}), area(api.Ref{}, api.Ref{Row: 1}), call("F"), call("A0"), call("A00"), call("TRUE1")}
	told := map[string]int{}
	for _, a := range leaves {
		check(t, one(a))
		told[Print(one(a))]++
		for _, b := range leaves {
			for _, l := range [][]api.Node{of(api.NCat, one(a), one(b)), fun("F", one(a), one(b))} {
				check(t, l)
				told[Print(l)]++
			}
		}
	}
	if want := len(leaves) + 2*len(leaves)*len(leaves); len(told) != want {
		t.Errorf("5.3: %d texts of %d trees", len(told), want)
	}
}

// 6.2: trees whose texts are as long as a cell may be, and one byte longer.
func TestLength(t *testing.T) {
	for _, c := range []struct {
		l    []api.Node
		want api.Errno
	}{
		{one(text(strings.Repeat("x", api.MaxCell-2))), api.OK},
		{one(text(strings.Repeat("x", api.MaxCell-1))), api.ErrLarge},
		{one(text(strings.Repeat(`"`, api.MaxCell/2-1))), api.OK},
		{one(text(strings.Repeat(`"`, api.MaxCell/2-1) + "x")), api.ErrLarge},
		{fun("F", one(text(strings.Repeat("\xff", api.MaxCell-5)))), api.OK},
		{fun("F", one(text(strings.Repeat("\xff", api.MaxCell-4)))), api.ErrLarge},
		{leftRow(api.NAdd, api.MaxCell/2-1, 11), api.OK},
		{leftRow(api.NAdd, api.MaxCell/2-1, 111), api.ErrLarge},
		{leftRow(api.NNe, api.MaxCell/3-1, 111), api.OK},
		{leftRow(api.NNe, api.MaxCell/3-1, 1111), api.ErrLarge},
	} {
		s, bytes := Print(c.l), api.MaxCell
		if c.want != api.OK {
			bytes++
		}
		if _, e := parse.Parse(s); e != c.want || len(s) != bytes {
			t.Errorf("6.2: %d bytes: %d, not %d", len(s), e, c.want)
		}
		check(t, c.l)
	}
}

// leftRow is 1 with so many operators behind it, from the left, each with a 1, the last one with a number.
func leftRow(kind, n, last int) []api.Node {
	l := []api.Node{num(1)}
	for i := range n {
		l = append(l, num(1), two(kind, 2*i, 2*i+1))
	}
	l[len(l)-2].Num = last
	return l
}

// rightRow is so many operators with a 1 ahead of each, from the right.
func rightRow(kind, n int) []api.Node {
	l := slices.Repeat([]api.Node{num(1)}, n+1)
	for i := range n {
		l = append(l, two(kind, n-1-i, n+i))
	}
	return l
}

// nests make a tree one deeper, each in its own way.
func nests() []func([]api.Node) []api.Node {
	a := one(num(1))
	return []func([]api.Node) []api.Node{
		minus,
		func(l []api.Node) []api.Node { return fun("F", l) },
		func(l []api.Node) []api.Node { return fun("F", a, l, a) },
		func(l []api.Node) []api.Node { return of(api.NSub, a, of(api.NAdd, l, a)) },
		func(l []api.Node) []api.Node { return of(api.NMul, of(api.NCat, l, a), a) },
	}
}

// 6.2: as deep as may be, and one deeper.
func TestDepth(t *testing.T) {
	for _, nest := range nests() {
		l := one(num(1))
		for deep := range api.MaxNest + 4 {
			want := api.OK
			if deep > api.MaxNest {
				want = api.ErrDeep
			}
			if _, e := parse.Parse(Print(l)); e != want {
				t.Errorf("6.2: %q, %d deep: %d", Print(l), deep, e)
			}
			check(t, l)
			l = nest(l)
		}
	}
	signs := strings.Repeat("-", api.MaxNest-1)
	for _, c := range []struct {
		s    string
		want api.Errno
	}{{signs + "(1+2)", api.OK}, {"-" + signs + "(1+2)", api.ErrDeep}, {signs + "-1", api.OK}, {signs + "--1", api.ErrDeep}, {signs + "F()", api.OK}, {signs + "-F()", api.ErrDeep}} {
		r, _ := read(c.s)
		if _, e := parse.Parse(c.s); e != c.want {
			t.Errorf("6.2: %q: %d", c.s, e)
		}
		expect(t, c.s, r.nodes)
	}
}

// 6.1, 5.3: far longer and far deeper than any cell.
func TestBeyond(t *testing.T) {
	const n = 1 << 16
	chain, calls := []api.Node{num(7)}, []api.Node{num(7)}
	wide := slices.Repeat([]api.Node{num(7)}, n)
	top := call("F")
	for i := range n {
		chain = append(chain, neg(i))
		calls = append(calls, call("F", i))
		top.Kids = append(top.Kids, i)
	}
	wide = append(wide, top)
	for _, c := range []struct {
		l    []api.Node
		want string
	}{
		{chain, strings.Repeat("-", n) + "7"},
		{calls, strings.Repeat("F(", n) + "7" + strings.Repeat(")", n)},
		{wide, "F(" + strings.Repeat("7,", n-1) + "7)"},
		{leftRow(api.NLe, n, 7), "1" + strings.Repeat("<=1", n-1) + "<=7"},
		{rightRow(api.NDiv, n), "1/" + strings.Repeat("(1/", n-1) + "1" + strings.Repeat(")", n-1)},
		{one(text(strings.Repeat("x", n))), `"` + strings.Repeat("x", n) + `"`},
		{one(text(strings.Repeat(`"`, n))), `"` + strings.Repeat(`""`, n) + `"`},
	} {
		expect(t, c.want, c.l)
		if s := Print(append(slices.Clone(c.l), num(1))); s != "" {
			t.Errorf("6.1: no tree: %q", brief(s))
		}
	}
}

// 6.1: a tree of a million nodes, each within the one behind it.
func TestDeepest(t *testing.T) {
	const n = 1 << 20
	l := make([]api.Node, n+1)
	places := make([]int, n)
	l[0] = num(7)
	for i := range n {
		places[i] = i
		l[i+1] = api.Node{Kind: api.NNeg, Kids: places[i : i+1]}
	}
	if s := Print(l); len(s) != n+1 || s != strings.Repeat("-", n)+"7" {
		t.Error("6.1:", len(s))
	}
}

// 6.1: of no node, and of lists that are no Tree, nothing is told.
func TestNoTree(t *testing.T) {
	r := api.Ref{Col: 1, Row: 2}
	for i, l := range [][]api.Node{nil, {}, make([]api.Node, 0, 4), {{}}, {{Kind: -1}}, {{Kind: 20}}, {{Kind: 99}}, {{Kind: math.MaxInt}}, {{Kind: math.MinInt}}, {num(-1)}, {num(math.MinInt)}, {truth(2)}, {truth(-1)},
		{text("\n")}, {text("a\x00")}, {text("\x1f")}, {{Kind: api.NText, Text: "a", Num: 1}}, {{Kind: api.NNum, Text: "a"}}, {{Kind: api.NDead, Ref: r}}, {{Kind: api.NDead, Num: 1}}, {{Kind: api.NRef, Ref: r, To: r}},
		{ref(api.Ref{Col: 702})}, {ref(api.Ref{Row: 999})}, {ref(api.Ref{Col: -1})}, {ref(api.Ref{Row: -1})}, {ref(api.Ref{Sheet: "1"})}, {ref(api.Ref{Sheet: "a b"})}, {ref(api.Ref{Sheet: "abcdefghijklm"})},
		{area(r, api.Ref{Col: 0, Row: 2})}, {area(r, api.Ref{Col: 1, Row: 1})}, {area(r, api.Ref{Sheet: "S", Col: 1, Row: 2})}, {area(r, api.Ref{Col: 702, Row: 2})}, {area(api.Ref{Col: -1}, r)},
		{call("")}, {call("f")}, {call("A1")}, {call("ZZ999")}, {call("TRUE")}, {call("FALSE")}, {call("ABCDEFGHIJKLM")}, {call("F(")}, {call(" F")}, {call("1F")}, {call("$F")}, {call("S!A1")}, {call("É")},
		{num(1), num(2)}, {neg(0)}, {neg(1), num(1)}, {{Kind: api.NNeg}}, {num(1), {Kind: api.NNeg}}, {num(1), neg(1)}, {num(1), neg(-1)}, {num(1), neg(2)}, {num(1), neg(math.MaxInt)}, {num(1), neg(0), num(2)},
		{num(1), num(2), neg(1)}, {num(1), num(2), neg(0)}, {num(1), num(2), two(api.NAdd, 1, 0)}, {num(1), num(2), two(api.NAdd, 0, 0)}, {num(1), num(2), two(api.NAdd, 1, 1)}, {num(1), num(2), two(api.NAdd, 0, 2)},
		{num(1), num(2), two(api.NAdd, -1, 1)}, {num(1), two(api.NAdd, 0, 0)}, {num(1), {Kind: api.NAdd, Kids: []int{0}}}, {{Kind: api.NMul}}, {num(1), num(2), num(3), {Kind: api.NAdd, Kids: []int{0, 1, 2}}},
		{num(1), num(2), two(20, 0, 1)}, {num(1), num(2), two(0, 0, 1)}, {num(1), {Kind: api.NNum, Kids: []int{0}}}, {num(1), {Kind: api.NRef, Kids: []int{0}}}, {num(1), call("F")}, {num(1), call("F", 0, 0)},
		{num(1), num(2), call("F", 1)}, {num(1), num(2), call("F", 1, 0)}, {call("F", 0)}, {num(1), call("f", 0)}, {num(-1), neg(0)}, {text("\t"), call("F", 0)}, {num(1), num(2), num(3), two(api.NAdd, 0, 1), two(api.NMul, 2, 3)}} {
		if s := Print(l); s != "" {
			t.Errorf("6.1: no tree, %d: %q", i, s)
		}
	}
}

// 6.1: trees with a change: something is told of those alone that are trees still.
func TestChanged(t *testing.T) {
	d := dice(9)
	for range 3000 {
		l := anyTree(&d, 1+d.below(4))
		i, k := d.below(len(l)), d.below(len(l))
		swapped, bad, cut := slices.Clone(l), slices.Clone(l), slices.Delete(slices.Clone(l), i, i+1)
		swapped[i], swapped[k] = swapped[k], swapped[i]
		bad[i].Kids = append(slices.Clone(l[i].Kids), d.below(len(l)+2)-1)
		kind := slices.Clone(l)
		kind[i].Kind = d.below(api.NDiv+3) - 1
		for _, other := range [][]api.Node{swapped, bad, cut, kind, l[:i], l[i:]} {
			if s := Print(other); (s != "") != parse.Tree(other) {
				t.Fatalf("6.1: %v: %q", other, s)
			} else if s != "" {
				check(t, other)
			}
		}
	}
}

// R3, R5: what is handed in is not changed, nor kept, and the same is told again.
func TestHandedIn(t *testing.T) {
	l := fun("F", one(num(1)), of(api.NMul, minus(one(text(`"`))), of(api.NAdd, one(ref(api.Ref{})), one(truth(1)))))
	const want = `F(1,-""""*(A1+TRUE))`
	room := slices.Grow(slices.Clone(l), 5)
	expect(t, want, room)
	if !same(room, l) || room[:cap(room)][len(l)].Kind != 0 {
		t.Error("R3:", room)
	}
	first := Print(room)
	room[0].Num, room[1].Text = 2, "b"
	expect(t, `F(2,-"b"*(A1+TRUE))`, room)
	if first != want {
		t.Error("R3:", first)
	}
	expect(t, want, l)
}
