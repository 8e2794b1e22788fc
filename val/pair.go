package val

import (
	"cmp"
	"strings"

	"chequer/api"
)

// pair is what stands on both sides of an operator: none of them is an error.
type pair struct {
	a, b api.Val
}

// operator tells the method of an operator by its node's kind; false: there is none of that kind.
func operator(kind int) (func(pair) api.Val, bool) {
	table := [...]func(pair) api.Val{
		api.NEq:  pair.equal,
		api.NNe:  pair.unequal,
		api.NLt:  pair.below,
		api.NLe:  pair.notAbove,
		api.NGt:  pair.above,
		api.NGe:  pair.notBelow,
		api.NCat: pair.join,
		api.NAdd: pair.add,
		api.NSub: pair.subtract,
		api.NMul: pair.multiply,
		api.NDiv: pair.divide,
	}
	if kind < api.NEq || kind >= len(table) {
		return nil, false
	}
	return table[kind], true
}

func (p pair) equal() api.Val    { return truth(p.compare() == 0) }
func (p pair) unequal() api.Val  { return truth(p.compare() != 0) }
func (p pair) below() api.Val    { return truth(p.compare() < 0) }
func (p pair) notAbove() api.Val { return truth(p.compare() <= 0) }
func (p pair) above() api.Val    { return truth(p.compare() > 0) }
func (p pair) notBelow() api.Val { return truth(p.compare() >= 0) }

func (p pair) add() api.Val      { return p.reckon(numbers.sum) }
func (p pair) subtract() api.Val { return p.reckon(numbers.difference) }
func (p pair) multiply() api.Val { return p.reckon(numbers.product) }
func (p pair) divide() api.Val   { return p.reckon(numbers.quotient) }

// compare tells less than 0, if the first one is below the second one; 0, if they are alike; else more than 0. Kinds
// stand by their own numbers: a number below a text, that below a truth.
func (p pair) compare() int {
	a, b := counted(p.a, p.b), counted(p.b, p.a)
	switch {
	case a.Kind != b.Kind:
		return cmp.Compare(a.Kind, b.Kind)
	case a.Kind == api.VText:
		return strings.Compare(a.S, b.S)
	}
	return cmp.Compare(a.N, b.N)
}

// counted tells what a value counts as beside another one: of each kind 0, an empty text, FALSE is the one with nothing
// but its kind.
func counted(v, beside api.Val) api.Val {
	if v.Kind == api.VNone {
		return api.Val{Kind: beside.Kind}
	}
	return v
}

// join lets the texts of both stand one behind the other.
func (p pair) join() api.Val {
	s := Text(p.a) + Text(p.b)
	if len(s) > api.MaxResult {
		return fault(api.EValue)
	}
	return text(s)
}

// reckon hands both to an operator of numbers, if they are numbers.
func (p pair) reckon(operate func(numbers) api.Val) api.Val {
	a, ok := Int(p.a)
	if !ok {
		return fault(api.EValue)
	}
	b, ok := Int(p.b)
	if !ok {
		return fault(api.EValue)
	}
	return operate(numbers{a, b})
}
