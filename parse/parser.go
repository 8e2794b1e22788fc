package parse

import "chequer/api"

// Ranks of the grammar's levels, from the loosest one on: each reads its parts by the level of the next rank.
const (
	rankExpr = iota
	rankCat
	rankSum
	rankTerm
	rankUnary
	rankPrim
)

// operator is a sign that stands between two operands.
type operator struct {
	sign string
	rank int
	kind int
}

var operators = [...]operator{
	{"=", rankExpr, api.NEq},
	{"<>", rankExpr, api.NNe},
	{"<", rankExpr, api.NLt},
	{"<=", rankExpr, api.NLe},
	{">", rankExpr, api.NGt},
	{">=", rankExpr, api.NGe},
	{"&", rankCat, api.NCat},
	{"+", rankSum, api.NAdd},
	{"-", rankSum, api.NSub},
	{"*", rankTerm, api.NMul},
	{"/", rankTerm, api.NDiv},
}

// parser goes through the tokens of a formula: each method that reads a part moves the place behind it, and leaves its
// nodes, its root as the last one. Behind an error neither counts any more. The last token, the end, is never passed.
type parser struct {
	tokens []api.Token
	at     int
	depth  int
	nodes  []api.Node
}

// level reads by the level of a rank.
func (p *parser) level(rank int) api.Errno {
	levels := [...]func() api.Errno{
		rankExpr:  p.expr,
		rankCat:   p.cat,
		rankSum:   p.sum,
		rankTerm:  p.term,
		rankUnary: p.unary,
		rankPrim:  p.prim,
	}
	return levels[rank]()
}

func (p *parser) expr() api.Errno {
	return p.row(rankExpr)
}

func (p *parser) cat() api.Errno {
	return p.row(rankCat)
}

func (p *parser) sum() api.Errno {
	return p.row(rankSum)
}

func (p *parser) term() api.Errno {
	return p.row(rankTerm)
}

// row reads operands with operators of a rank between them, from the left.
func (p *parser) row(rank int) api.Errno {
	if e := p.level(rank + 1); e != api.OK {
		return e
	}
	for {
		kind, ok := p.operator(rank)
		if !ok {
			return api.OK
		}
		p.at++
		left := p.root()
		if e := p.level(rank + 1); e != api.OK {
			return e
		}
		p.add(api.Node{Kind: kind, Kids: []int{left, p.root()}})
	}
}

// operator tells the kind of the one of a rank that stands at the parser's place; false: there is none.
func (p *parser) operator(rank int) (int, bool) {
	for _, o := range operators {
		if o.rank == rank && p.isSign(o.sign) {
			return o.kind, true
		}
	}
	return 0, false
}

func (p *parser) unary() api.Errno {
	if !p.isSign("-") {
		return p.level(rankPrim)
	}
	if e := p.open(); e != api.OK {
		return e
	}
	if e := p.level(rankUnary); e != api.OK {
		return e
	}
	p.depth--
	p.add(api.Node{Kind: api.NNeg, Kids: []int{p.root()}})
	return api.OK
}

func (p *parser) prim() api.Errno {
	t := p.token()
	switch t.Kind {
	case api.TokNum:
		return p.leaf(api.Node{Kind: api.NNum, Num: t.Num})
	case api.TokText:
		return p.leaf(api.Node{Kind: api.NText, Text: t.Text})
	case api.TokDead:
		return p.leaf(api.Node{Kind: api.NDead})
	case api.TokRef:
		return p.place(t.Ref)
	case api.TokName:
		return p.word(t.Text)
	}
	return p.inBrackets()
}

// leaf takes a token that is a node of its own.
func (p *parser) leaf(n api.Node) api.Errno {
	p.at++
	p.add(n)
	return api.OK
}

// place takes a reference, and the one behind it, if it is a range.
func (p *parser) place(from api.Ref) api.Errno {
	p.at++
	if !p.take(":") {
		p.add(api.Node{Kind: api.NRef, Ref: from})
		return api.OK
	}
	t := p.token()
	if t.Kind != api.TokRef || !isRange(from, t.Ref) {
		return api.ErrForm
	}
	return p.leaf(api.Node{Kind: api.NRange, Ref: from, To: t.Ref})
}

// word takes a name, and what it is called with, unless it is that of a truth.
func (p *parser) word(name string) api.Errno {
	switch name {
	case wordTrue:
		return p.leaf(api.Node{Kind: api.NBool, Num: 1})
	case wordFalse:
		return p.leaf(api.Node{Kind: api.NBool})
	}
	p.at++
	if !p.isSign("(") {
		return api.ErrForm
	}
	return p.call(name)
}

func (p *parser) call(name string) api.Errno {
	if e := p.open(); e != api.OK {
		return e
	}
	var kids []int
	for more := !p.isSign(")"); more; more = p.take(",") {
		if e := p.level(rankExpr); e != api.OK {
			return e
		}
		kids = append(kids, p.root())
	}
	if e := p.closeBracket(); e != api.OK {
		return e
	}
	p.add(api.Node{Kind: api.NCall, Text: name, Kids: kids})
	return api.OK
}

func (p *parser) inBrackets() api.Errno {
	if !p.isSign("(") {
		return api.ErrForm
	}
	if e := p.open(); e != api.OK {
		return e
	}
	if e := p.level(rankExpr); e != api.OK {
		return e
	}
	return p.closeBracket()
}

// open takes a sign that what follows is nested in.
func (p *parser) open() api.Errno {
	if p.depth == api.MaxNest {
		return api.ErrDeep
	}
	p.depth++
	p.at++
	return api.OK
}

func (p *parser) closeBracket() api.Errno {
	if !p.take(")") {
		return api.ErrForm
	}
	p.depth--
	return api.OK
}

// token tells the one at the parser's place.
func (p *parser) token() api.Token {
	return p.tokens[p.at]
}

// isSign asks for the kind, too: a text in its marks may read like a sign.
func (p *parser) isSign(s string) bool {
	t := p.token()
	return t.Kind == api.TokSign && t.Text == s
}

// take tells whether a sign stood there, and goes behind it.
func (p *parser) take(s string) bool {
	if !p.isSign(s) {
		return false
	}
	p.at++
	return true
}

func (p *parser) add(n api.Node) {
	p.nodes = append(p.nodes, n)
}

// root tells the place of what was read last.
func (p *parser) root() int {
	return len(p.nodes) - 1
}
