package show

import (
	"slices"
	"strconv"
	"strings"

	"chequer/addr"
	"chequer/api"
)

// operator is a sign between two operands, with its kind and its rank, as the document tells them.
type operator struct {
	sign string
	kind int
	rank int
}

func allOperators() []operator {
	return []operator{{"=", 9, 1}, {"<>", 10, 1}, {"<", 11, 1}, {"<=", 12, 1}, {">", 13, 1}, {">=", 14, 1}, {"&", 15, 2},
		{"+", 16, 3}, {"-", 17, 3}, {"*", 18, 4}, {"/", 19, 4}}
}

// theirs reads a formula of any length and depth by its operators' ranks. It knows no blanks.
type theirs struct {
	text    string
	at      int
	nodes   []api.Node
	pairs   [][2]int // where brackets that are no call's begin and end
	deep    int
	deepest int
}

// read tells what s says; false: it says nothing.
func read(s string) (*theirs, bool) {
	r := &theirs{text: s}
	ok := r.row(1) && r.at == len(s)
	return r, ok
}

func (r *theirs) rest() string {
	return r.text[r.at:]
}

func (r *theirs) take(s string) bool {
	if !strings.HasPrefix(r.rest(), s) {
		return false
	}
	r.at += len(s)
	return true
}

// word takes bytes of a set, as far as they go.
func (r *theirs) word(of string) string {
	s := r.rest()
	s = s[:len(s)-len(strings.TrimLeft(s, of))]
	r.at += len(s)
	return s
}

func (r *theirs) leaf(n api.Node) bool {
	r.nodes = append(r.nodes, n)
	return true
}

func (r *theirs) root() int {
	return len(r.nodes) - 1
}

// sign takes the longest operator that stands there.
func (r *theirs) sign() operator {
	found := operator{}
	for _, o := range allOperators() {
		if strings.HasPrefix(r.rest(), o.sign) && len(o.sign) > len(found.sign) {
			found = o
		}
	}
	r.at += len(found.sign)
	return found
}

// row reads operands with operators of at least a rank between them.
func (r *theirs) row(least int) bool {
	if !r.operand() {
		return false
	}
	for {
		left, at := r.root(), r.at
		o := r.sign()
		if o.rank < least {
			r.at = at
			return true
		}
		if !r.row(o.rank + 1) {
			return false
		}
		r.leaf(two(o.kind, left, r.root()))
	}
}

// within reads what one more level holds.
func (r *theirs) within(f func() bool) bool {
	r.deep++
	r.deepest = max(r.deepest, r.deep)
	ok := f()
	r.deep--
	return ok
}

func (r *theirs) operand() bool {
	from := r.at
	switch {
	case r.take("-"):
		return r.within(r.operand) && r.leaf(neg(r.root()))
	case r.take("("):
		ok := r.within(func() bool { return r.row(1) }) && r.take(")")
		r.pairs = append(r.pairs, [2]int{from, r.at - 1})
		return ok
	case r.take("#REF!"):
		return r.leaf(dead())
	case r.take(`"`):
		return r.quoted()
	}
	if s := r.word("0123456789"); s != "" {
		n, err := strconv.ParseUint(s, 10, 63)
		return err == nil && strconv.FormatUint(n, 10) == s && r.leaf(num(int(n)))
	}
	return r.named(r.word("ABCDEFGHIJKLMNOPQRSTUVWXYZabcdefghijklmnopqrstuvwxyz0123456789$!"))
}

// quoted takes what is between two marks.
func (r *theirs) quoted() bool {
	var b strings.Builder
	for {
		end := strings.Index(r.rest(), `"`)
		if end < 0 {
			return false
		}
		b.WriteString(r.rest()[:end])
		r.at += end + 1
		if !r.take(`"`) {
			return r.leaf(text(b.String()))
		}
		b.WriteString(`"`)
	}
}

// named takes what a word begins.
func (r *theirs) named(s string) bool {
	from, ok := addr.Read(s)
	switch {
	case ok && r.take(":"):
		to, ok := addr.Read(r.word("ABCDEFGHIJKLMNOPQRSTUVWXYZ0123456789$"))
		return ok && r.leaf(area(from, to))
	case ok:
		return r.leaf(ref(from))
	case s == "TRUE":
		return r.leaf(truth(1))
	case s == "FALSE":
		return r.leaf(truth(0))
	}
	return s != "" && r.take("(") && r.within(func() bool { return r.args(s) })
}

func (r *theirs) args(name string) bool {
	kids := []int{}
	for !r.take(")") {
		if len(kids) > 0 && !r.take(",") || !r.row(1) {
			return false
		}
		kids = append(kids, r.root())
	}
	return r.leaf(call(name, kids...))
}

// same tells whether two lists of nodes are alike in all fields; a nil list and an empty one are one.
func same(a, b []api.Node) bool {
	return slices.EqualFunc(a, b, func(m, n api.Node) bool {
		return m.Kind == n.Kind && m.Num == n.Num && m.Text == n.Text && m.Ref == n.Ref && m.To == n.To && slices.Equal(m.Kids, n.Kids)
	})
}

func num(n int) api.Node {
	return api.Node{Kind: 1, Num: n}
}

func text(s string) api.Node {
	return api.Node{Kind: 2, Text: s}
}

func truth(n int) api.Node {
	return api.Node{Kind: 3, Num: n}
}

func dead() api.Node {
	return api.Node{Kind: 4}
}

func ref(r api.Ref) api.Node {
	return api.Node{Kind: 5, Ref: r}
}

func area(r, to api.Ref) api.Node {
	return api.Node{Kind: 6, Ref: r, To: to}
}

func call(name string, kids ...int) api.Node {
	return api.Node{Kind: 7, Text: name, Kids: kids}
}

func neg(kid int) api.Node {
	return api.Node{Kind: 8, Kids: []int{kid}}
}

func two(kind, left, right int) api.Node {
	return api.Node{Kind: kind, Kids: []int{left, right}}
}

// join lays trees one behind the other, and a node behind them, which has them as its kids.
func join(n api.Node, trees ...[]api.Node) []api.Node {
	var l []api.Node
	n.Kids = nil
	for _, tree := range trees {
		first := len(l)
		for _, m := range tree {
			m.Kids = slices.Clone(m.Kids)
			for i := range m.Kids {
				m.Kids[i] += first
			}
			l = append(l, m)
		}
		n.Kids = append(n.Kids, len(l)-1)
	}
	return append(l, n)
}

// of is an operator between two trees, minus a `-` ahead of one, fun a call of some.
func of(kind int, left, right []api.Node) []api.Node {
	return join(api.Node{Kind: kind}, left, right)
}

func minus(tree []api.Node) []api.Node {
	return join(neg(0), tree)
}

func fun(name string, trees ...[]api.Node) []api.Node {
	return join(call(name), trees...)
}

func one(n api.Node) []api.Node {
	return []api.Node{n}
}

// dice tells numbers that look like any, the same ones in every run.
type dice uint64

func (d *dice) below(n int) int {
	*d = *d*6364136223846793005 + 1442695040888963407
	return int(uint64(*d)>>33) % n
}

// anyText is one of bytes from 32 on, many of them marks.
func anyText(d *dice) string {
	b := make([]byte, d.below(6))
	for i := range b {
		b[i] = byte(32 + d.below(256-32))
		if d.below(3) == 0 {
			b[i] = '"'
		}
	}
	return string(b)
}

func anyLeaf(d *dice) api.Node {
	from := api.Ref{Sheet: []string{"", "S1", "a", "TRUE", "abcdefghijkl"}[d.below(5)], Col: d.below(702), Row: d.below(999), AbsCol: d.below(2) == 0, AbsRow: d.below(2) == 0}
	to := api.Ref{Col: from.Col + d.below(702-from.Col), Row: from.Row + d.below(999-from.Row), AbsCol: d.below(2) == 0, AbsRow: d.below(2) == 0}
	some := []api.Node{num(d.below(1 << (1 + d.below(30)))), text(anyText(d)), truth(d.below(2)), dead(), ref(from), area(from, to), call("G")}
	return some[d.below(len(some))]
}

// anyTree is one at most so deep.
func anyTree(d *dice, deep int) []api.Node {
	switch n := d.below(6); {
	case deep == 0 || n == 0:
		return one(anyLeaf(d))
	case n == 1:
		return minus(anyTree(d, deep-1))
	case n == 2:
		var args [][]api.Node
		for range d.below(4) {
			args = append(args, anyTree(d, deep-1))
		}
		return fun([]string{"F", "SUM", "A0", "TRUE1", "AAA1"}[d.below(5)], args...)
	}
	return of(api.NEq+d.below(api.NDiv-api.NEq+1), anyTree(d, deep-1), anyTree(d, deep-1))
}
