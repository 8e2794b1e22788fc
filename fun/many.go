package fun

import (
	"slices"
	"strings"

	"chequer/api"
	"chequer/val"
)

// Functions of as many arguments as there are, single ones and Ranges; ROWS and COLS.

// sum stays an error from the first sum on that does not go into 64 bits: it is the left side of all that follow.
func (c call) sum() api.Val {
	l, ok := c.numbers()
	if !ok {
		return fault(api.EValue)
	}
	sum := number(0)
	for _, n := range l {
		sum = val.Two(api.NAdd, sum, number(n))
	}
	return sum
}

func (c call) least() api.Val {
	return c.extreme(slices.Min)
}

func (c call) greatest() api.Val {
	return c.extreme(slices.Max)
}

// extreme tells the one that choose takes of all numbers: choose is not asked of none.
func (c call) extreme(choose func([]int) int) api.Val {
	l, ok := c.numbers()
	switch {
	case !ok:
		return fault(api.EValue)
	case len(l) == 0:
		return number(0)
	}
	return number(choose(l))
}

func (c call) count() api.Val {
	n := 0
	for _, a := range c.args {
		for _, v := range a.Vals {
			if v.Kind == api.VInt {
				n++
			}
		}
	}
	return number(n)
}

func (c call) all() api.Val {
	l, ok := c.truths()
	if !ok {
		return fault(api.EValue)
	}
	return truth(!slices.Contains(l, false))
}

func (c call) any() api.Val {
	l, ok := c.truths()
	if !ok {
		return fault(api.EValue)
	}
	return truth(slices.Contains(l, true))
}

// join stops where there is too much: there may be far more.
func (c call) join() api.Val {
	var whole strings.Builder
	for _, a := range c.args {
		for _, v := range a.Vals {
			s := val.Text(v)
			if whole.Len()+len(s) > api.MaxResult {
				return fault(api.EValue)
			}
			whole.WriteString(s)
		}
	}
	return text(whole.String())
}

// rows that have no columns are none.
func (c call) rows() api.Val {
	a := c.args[0]
	if a.Cols < 1 {
		return number(0)
	}
	return number(len(a.Vals) / a.Cols)
}

func (c call) columns() api.Val {
	return number(c.args[0].Cols)
}

// numbers tells all numbers, in order; false, if something else stands alone.
func (c call) numbers() (l []int, ok bool) {
	vals, ok := c.passing(api.VInt)
	for _, v := range vals {
		l = append(l, v.N)
	}
	return l, ok
}

// truths tells what all count as that are numbers or truths, in order; false, if something else stands alone, or if
// there are none.
func (c call) truths() (l []bool, ok bool) {
	vals, ok := c.passing(api.VInt, api.VBool)
	for _, v := range vals {
		is, _ := val.Truth(v)
		l = append(l, is)
	}
	return l, ok && len(l) > 0
}

// passing tells all values of some kinds, in order, past VNone, and past others that stand in a Range; false, if one of
// the others stands alone.
func (c call) passing(kinds ...int) (l []api.Val, ok bool) {
	for _, a := range c.args {
		for _, v := range a.Vals {
			if slices.Contains(kinds, v.Kind) {
				l = append(l, v)
			} else if v.Kind != api.VNone && !a.Range {
				return nil, false
			}
		}
	}
	return l, true
}
