package show

import (
	"slices"
	"strconv"
	"strings"

	"chequer/addr"
	"chequer/api"
)

// part of a formula's text: a text as it stands, or, where that is empty, what a node says, in brackets if the node's
// rank is below the least one.
type part struct {
	text  string
	node  int
	least int
}

func plain(text string) part {
	return part{text: text}
}

func operand(node, least int) part {
	return part{node: node, least: least}
}

// writer writes a tree part by part. The parts that are still to come stand in a list of its own, the next one as the
// last one, and not in calls within calls: a tree may be deeper than those go.
type writer struct {
	nodes []api.Node
	wait  []part
	text  strings.Builder
}

// methodOf tells by which method a node of a kind is written: its own text at once, its kids as parts to come.
func methodOf(kind int) func(*writer, api.Node) {
	switch kind {
	case api.NNum:
		return (*writer).number
	case api.NText:
		return (*writer).quoted
	case api.NBool:
		return (*writer).truth
	case api.NDead:
		return (*writer).dead
	case api.NRef:
		return (*writer).place
	case api.NRange:
		return (*writer).places
	case api.NCall:
		return (*writer).call
	case api.NNeg:
		return (*writer).negative
	}
	return (*writer).between
}

// push lets parts come ahead of all that wait, in the order in which they are handed in.
func (w *writer) push(parts ...part) {
	for _, p := range slices.Backward(parts) {
		w.wait = append(w.wait, p)
	}
}

// pop takes the next part; there is one.
func (w *writer) pop() part {
	last := len(w.wait) - 1
	p := w.wait[last]
	w.wait = w.wait[:last]
	return p
}

func (w *writer) write(p part) {
	if p.text != "" {
		w.text.WriteString(p.text)
		return
	}
	n := w.nodes[p.node]
	if rankOf(n.Kind) < p.least {
		w.text.WriteString("(")
		w.push(plain(")"))
	}
	methodOf(n.Kind)(w, n)
}

func (w *writer) number(n api.Node) {
	w.text.WriteString(strconv.Itoa(n.Num))
}

func (w *writer) quoted(n api.Node) {
	w.text.WriteString(textMark)
	w.text.WriteString(strings.ReplaceAll(n.Text, textMark, textMark+textMark))
	w.text.WriteString(textMark)
}

func (w *writer) truth(n api.Node) {
	if n.Num == 1 {
		w.text.WriteString(wordTrue)
		return
	}
	w.text.WriteString(wordFalse)
}

func (w *writer) dead(api.Node) {
	w.text.WriteString(wordDead)
}

func (w *writer) place(n api.Node) {
	w.text.WriteString(addr.Text(n.Ref))
}

func (w *writer) places(n api.Node) {
	w.text.WriteString(addr.Text(n.Ref) + ":" + addr.Text(n.To))
}

func (w *writer) call(n api.Node) {
	w.text.WriteString(n.Text + "(")
	w.push(plain(")"))
	for i, kid := range slices.Backward(n.Kids) {
		w.push(operand(kid, rankAny))
		if i > 0 {
			w.push(plain(","))
		}
	}
}

func (w *writer) negative(n api.Node) {
	w.text.WriteString("-")
	w.push(operand(n.Kids[0], rankNeg))
}

// between asks more of the right operand: operators of one rank go from the left.
func (w *writer) between(n api.Node) {
	rank := rankOf(n.Kind)
	w.push(operand(n.Kids[0], rank), plain(signs[n.Kind]), operand(n.Kids[1], rank+1))
}
