package parse

import (
	"slices"

	"chequer/addr"
	"chequer/api"
	"chequer/lex"
)

// minText is the lowest byte that a text may have.
const minText = 32

// Tree tells whether Parse could tell l of some text, however long and deep.
func Tree(l []api.Node) bool {
	// The nodes that are no one's kids yet, by their places: in post order a node's kids are the last of them.
	var roots []int
	for i, n := range l {
		first := len(roots) - len(n.Kids)
		if first < 0 || !slices.Equal(roots[first:], n.Kids) || !isNode(n) {
			return false
		}
		roots = append(roots[:first], i)
	}
	return len(roots) == 1
}

// isNode tells whether a node has what its kind asks for, and nothing else.
func isNode(n api.Node) bool {
	named, ok := fields(n)
	return ok && hasKids(n) && n.Num == named.Num && n.Text == named.Text && n.Ref == named.Ref && n.To == named.To
}

// fields tells of a node those fields, but its kids, that its kind has; false: they may not be, or there is no such kind.
func fields(n api.Node) (api.Node, bool) {
	switch n.Kind {
	case api.NNum:
		return api.Node{Num: n.Num}, n.Num >= 0
	case api.NText:
		return api.Node{Text: n.Text}, isText(n.Text)
	case api.NBool:
		return api.Node{Num: n.Num}, n.Num == 0 || n.Num == 1
	case api.NRef:
		return api.Node{Ref: n.Ref}, addr.May(n.Ref)
	case api.NRange:
		return api.Node{Ref: n.Ref, To: n.To}, addr.May(n.Ref) && addr.May(n.To) && isRange(n.Ref, n.To)
	case api.NCall:
		return api.Node{Text: n.Text}, isName(n.Text)
	}
	return api.Node{}, n.Kind == api.NDead || n.Kind == api.NNeg || isOfTwo(n.Kind)
}

// hasKids tells whether a node has as many as its kind.
func hasKids(n api.Node) bool {
	switch {
	case n.Kind == api.NCall:
		return true
	case n.Kind == api.NNeg:
		return len(n.Kids) == 1
	case isOfTwo(n.Kind):
		return len(n.Kids) == 2
	}
	return len(n.Kids) == 0
}

// isOfTwo tells whether nodes of a kind are operators between two operands.
func isOfTwo(kind int) bool {
	return api.NEq <= kind && kind <= api.NDiv
}

func isText(s string) bool {
	for i := range len(s) {
		if s[i] < minText {
			return false
		}
	}
	return true
}

// isName tells whether s may be called. The text of a name is all of it: blanks beside it would be passed over.
func isName(s string) bool {
	l, e := lex.Lex(s)
	return e == api.OK && l[0].Kind == api.TokName && l[0].Text == s && s != wordTrue && s != wordFalse
}
