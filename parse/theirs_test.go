package parse

import (
	"slices"
	"strconv"
	"strings"

	"chequer/addr"
	"chequer/api"
	"chequer/lex"
)

// rankOf are the operators' ranks, as chapter 6 tells them; kindOf their kinds.
var rankOf = map[string]int{"=": 1, "<>": 1, "<": 1, "<=": 1, ">": 1, ">=": 1, "&": 2, "+": 3, "-": 3, "*": 4, "/": 4}

var kindOf = map[string]int{"=": api.NEq, "<>": api.NNe, "<": api.NLt, "<=": api.NLe, ">": api.NGt, ">=": api.NGe,
	"&": api.NCat, "+": api.NAdd, "-": api.NSub, "*": api.NMul, "/": api.NDiv}

// waiting is an operator, a sign ahead or an open bracket whose end is not read yet.
type waiting struct {
	text  string // an operator's sign, "neg", "(", "call"
	name  string // of a call
	first int    // how many operands there were ahead of it
}

// yard reads formulas by a stack of what waits and a stack of operands, without any recursion.
type yard struct {
	nodes    []api.Node
	operands []int
	wait     []waiting
}

func (y *yard) leaf(n api.Node) {
	y.nodes = append(y.nodes, n)
	y.operands = append(y.operands, len(y.nodes)-1)
}

// top tells what waits last, or nothing.
func (y *yard) top() waiting {
	if len(y.wait) == 0 {
		return waiting{}
	}
	return y.wait[len(y.wait)-1]
}

// drop takes away what waits last.
func (y *yard) drop() {
	y.wait = y.wait[:len(y.wait)-1]
}

// apply makes a node of the last n operands.
func (y *yard) apply(n api.Node, of int) {
	rest := len(y.operands) - of
	n.Kids = slices.Clone(y.operands[rest:])
	y.operands = y.operands[:rest]
	y.leaf(n)
}

// behindOperand ends the signs ahead of an operand that was read.
func (y *yard) behindOperand() {
	for y.top().text == "neg" {
		y.drop()
		y.apply(api.Node{Kind: api.NNeg}, 1)
	}
}

// settle ends all operators of at least a rank.
func (y *yard) settle(rank int) {
	for rankOf[y.top().text] >= rank {
		kind := kindOf[y.top().text]
		y.drop()
		y.apply(api.Node{Kind: kind}, 2)
	}
}

// deep tells how many brackets and signs ahead are open.
func (y *yard) deep() int {
	n := 0
	for _, w := range y.wait {
		if rankOf[w.text] == 0 {
			n++
		}
	}
	return n
}

// open lets a bracket or a sign ahead wait, if it may be that deep.
func (y *yard) open(w waiting) api.Errno {
	if y.deep() >= 12 {
		return api.ErrDeep
	}
	w.first = len(y.operands)
	y.wait = append(y.wait, w)
	return api.OK
}

// finish ends the innermost bracket.
func (y *yard) finish() {
	w := y.top()
	y.drop()
	if w.text == "call" {
		y.apply(api.Node{Kind: api.NCall, Text: w.name}, len(y.operands)-w.first)
	}
	y.behindOperand()
}

// What may come next.
const (
	wantOperand = iota
	wantArgs    // likewise, or the end of a call
	wantMore    // an operator, a bracket's end, a comma, a colon behind a reference
	wantCall    // the bracket behind a name
	wantCorner  // a range's second reference
)

// start takes a token that begins an operand, and tells what may come next.
func (y *yard) start(t api.Token) (int, api.Errno) {
	switch {
	case t.Kind == api.TokName && t.Text == "TRUE":
		y.leaf(api.Node{Kind: api.NBool, Num: 1})
	case t.Kind == api.TokName && t.Text == "FALSE":
		y.leaf(api.Node{Kind: api.NBool, Num: 0})
	case t.Kind == api.TokName:
		return wantCall, api.OK
	case t.Kind == api.TokSign && t.Text == "-":
		return wantOperand, y.open(waiting{text: "neg"})
	case t.Kind == api.TokSign && t.Text == "(":
		return wantOperand, y.open(waiting{text: "("})
	case t.Kind == api.TokNum:
		y.leaf(api.Node{Kind: api.NNum, Num: t.Num})
	case t.Kind == api.TokText:
		y.leaf(api.Node{Kind: api.NText, Text: t.Text})
	case t.Kind == api.TokDead:
		y.leaf(api.Node{Kind: api.NDead})
	case t.Kind == api.TokRef:
		y.leaf(api.Node{Kind: api.NRef, Ref: t.Ref})
		return wantMore, api.OK // its signs ahead end later: it may be a range
	default:
		return 0, api.ErrForm
	}
	y.behindOperand()
	return wantMore, api.OK
}

// goOn takes a sign behind an operand, and tells what may come next.
func (y *yard) goOn(sign string) (int, api.Errno) {
	y.behindOperand()
	y.settle(max(rankOf[sign], 1))
	switch {
	case rankOf[sign] > 0:
		y.wait = append(y.wait, waiting{text: sign})
		return wantOperand, api.OK
	case sign == ")" && (y.top().text == "(" || y.top().text == "call"):
		y.finish()
		return wantMore, api.OK
	case sign == "," && y.top().text == "call":
		return wantOperand, api.OK
	}
	return 0, api.ErrForm
}

// corner makes a range of the reference that was read last.
func (y *yard) corner(t api.Token) (int, api.Errno) {
	n := &y.nodes[len(y.nodes)-1]
	if t.Kind != api.TokRef || t.Ref.Sheet != "" || t.Ref.Col < n.Ref.Col || t.Ref.Row < n.Ref.Row {
		return 0, api.ErrForm
	}
	n.Kind, n.To = api.NRange, t.Ref
	y.behindOperand()
	return wantMore, api.OK
}

// step takes the token behind another one, and tells what may come next.
func (y *yard) step(want int, before, t api.Token, name string) (int, api.Errno) {
	sign := ""
	if t.Kind == api.TokSign {
		sign = t.Text
	}
	switch want {
	case wantArgs:
		if sign == ")" {
			y.finish()
			return wantMore, api.OK
		}
		return y.start(t)
	case wantMore:
		if sign == ":" && before.Kind == api.TokRef && y.nodes[len(y.nodes)-1].Kind == api.NRef {
			return wantCorner, api.OK
		}
		return y.goOn(sign)
	case wantCall:
		if sign != "(" {
			return 0, api.ErrForm
		}
		return wantArgs, y.open(waiting{text: "call", name: name})
	case wantCorner:
		return y.corner(t)
	}
	return y.start(t)
}

// theirs reads a formula token by token.
func theirs(s string) ([]api.Node, api.Errno) {
	tokens, e := lex.Lex(s)
	if e != api.OK {
		return nil, e
	}
	y := &yard{}
	want := wantOperand
	var before api.Token
	for _, t := range tokens[:len(tokens)-1] {
		if want, e = y.step(want, before, t, before.Text); e != api.OK {
			return nil, e
		}
		before = t
	}
	if want != wantMore {
		return nil, api.ErrForm
	}
	y.behindOperand()
	y.settle(1)
	if len(y.wait) > 0 {
		return nil, api.ErrForm
	}
	return y.nodes, api.OK
}

// theirTree tells by recursion from the root on whether l is a tree in post order; of its nodes' fields it asks nothing.
func theirTree(l []api.Node) bool {
	var order []int
	var walk func(i, within int) bool
	walk = func(i, within int) bool {
		if i < 0 || i >= within {
			return false
		}
		for _, k := range l[i].Kids {
			if !walk(k, i) {
				return false
			}
		}
		order = append(order, i)
		return true
	}
	if len(l) == 0 || !walk(len(l)-1, len(l)) || len(order) != len(l) {
		return false
	}
	for i, at := range order {
		if i != at {
			return false
		}
	}
	return true
}

// rank tells how tight a node holds, as chapter 6 tells it.
func rank(n api.Node) int {
	if n.Kind == api.NNeg {
		return 5
	}
	if sign := signOf(n.Kind); sign != "" {
		return rankOf[sign]
	}
	return 6
}

func signOf(kind int) string {
	for sign, k := range kindOf {
		if k == kind {
			return sign
		}
	}
	return ""
}

// written writes the tree of the i-th node, in brackets, if it holds less tight than least.
func written(l []api.Node, i, least int) string {
	if rank(l[i]) < least {
		return "(" + written(l, i, 0) + ")"
	}
	n := l[i]
	switch n.Kind {
	case api.NNeg:
		return "-" + written(l, n.Kids[0], 5)
	case api.NCall:
		var args []string
		for _, k := range n.Kids {
			args = append(args, written(l, k, 0))
		}
		return n.Text + "(" + strings.Join(args, ",") + ")"
	}
	if sign := signOf(n.Kind); sign != "" {
		return written(l, n.Kids[0], rank(n)) + sign + written(l, n.Kids[1], rank(n)+1)
	}
	return leafWritten(n)
}

func leafWritten(n api.Node) string {
	switch n.Kind {
	case api.NNum:
		return strconv.Itoa(n.Num)
	case api.NText:
		return `"` + strings.ReplaceAll(n.Text, `"`, `""`) + `"`
	case api.NBool:
		return []string{"FALSE", "TRUE"}[n.Num]
	case api.NRef:
		return addr.Text(n.Ref)
	case api.NRange:
		return addr.Text(n.Ref) + ":" + addr.Text(n.To)
	}
	return "#REF!"
}
