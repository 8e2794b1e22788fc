package calc

import (
	"cmp"

	"chequer/api"
	"chequer/book"
	"chequer/fun"
	"chequer/val"
)

// reckoner goes through a tree's nodes as they stand, kids ahead of their node: calls within calls could go too deep.
type reckoner struct {
	nodes []api.Node
	own   string
	grid  grid
	told  []api.Val // of each node so far its value
}

// methodOf tells which method makes the value of a node of a kind.
func methodOf(kind int) func(*reckoner, api.Node) api.Val {
	switch kind {
	case api.NNum:
		return (*reckoner).number
	case api.NText:
		return (*reckoner).text
	case api.NBool:
		return (*reckoner).truth
	case api.NDead:
		return (*reckoner).dead
	case api.NRef:
		return (*reckoner).place
	case api.NRange:
		return (*reckoner).places
	case api.NCall:
		return (*reckoner).call
	case api.NNeg:
		return (*reckoner).negative
	}
	return (*reckoner).between
}

func (r *reckoner) number(n api.Node) api.Val {
	return api.Val{Kind: api.VInt, N: n.Num}
}

func (r *reckoner) text(n api.Node) api.Val {
	if len(n.Text) > api.MaxResult {
		return fault(api.EValue)
	}
	return api.Val{Kind: api.VText, S: n.Text}
}

func (r *reckoner) truth(n api.Node) api.Val {
	return api.Val{Kind: api.VBool, N: n.Num}
}

func (r *reckoner) dead(api.Node) api.Val {
	return fault(api.ERef)
}

func (r *reckoner) place(n api.Node) api.Val {
	sheet := r.sheet(n.Ref)
	if sheet < 0 {
		return fault(api.ERef)
	}
	return r.grid.value(sheet, n.Ref.Row, n.Ref.Col)
}

// places is what a range is anywhere but in a call, which asks for all of it by itself.
func (r *reckoner) places(api.Node) api.Val {
	return fault(api.EValue)
}

func (r *reckoner) call(n api.Node) api.Val {
	return fun.Call(n.Text, each(n.Kids, r.argument))
}

func (r *reckoner) negative(n api.Node) api.Val {
	return val.Neg(r.told[n.Kids[0]])
}

func (r *reckoner) between(n api.Node) api.Val {
	return val.Two(n.Kind, r.told[n.Kids[0]], r.told[n.Kids[1]])
}

// argument tells what a call's kid at a place is to its function.
func (r *reckoner) argument(kid int) api.Arg {
	n := r.nodes[kid]
	if n.Kind != api.NRange {
		return single(r.told[kid])
	}
	sheet := r.sheet(n.Ref)
	if sheet < 0 {
		return single(fault(api.ERef))
	}
	return r.grid.span(sheet, n.Ref, n.To)
}

// sheet tells the place of the one that a reference is of; -1: there is none.
func (r *reckoner) sheet(ref api.Ref) int {
	return book.Find(r.grid.book, cmp.Or(ref.Sheet, r.own))
}

// single is an argument that is no Range.
func single(v api.Val) api.Arg {
	return api.Arg{Vals: []api.Val{v}}
}

// fault is an error as a value.
func fault(n int) api.Val {
	return api.Val{Kind: api.VErr, N: n}
}
