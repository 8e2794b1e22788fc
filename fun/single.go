package fun

import (
	"chequer/api"
	"chequer/val"
)

// Functions of so many arguments, none of which is a Range.

// single tells the value of an argument that is no Range.
func (c call) single(i int) api.Val {
	if len(c.args[i].Vals) == 0 {
		return api.Val{}
	}
	return c.args[i].Vals[0]
}

// choice looks at the one that it takes not at all: an error there is told as any other value.
func (c call) choice() api.Val {
	v := c.single(0)
	if isError(v) {
		return v
	}
	is, ok := val.Truth(v)
	switch {
	case !ok:
		return fault(api.EValue)
	case is:
		return c.single(1)
	case len(c.args) == 3:
		return c.single(2)
	}
	return truth(false)
}

func (c call) opposite() api.Val {
	is, ok := val.Truth(c.single(0))
	if !ok {
		return fault(api.EValue)
	}
	return truth(!is)
}

func (c call) size() api.Val {
	n, ok := val.Int(c.single(0))
	switch {
	case !ok:
		return fault(api.EValue)
	case n < 0:
		return val.Neg(number(n))
	}
	return number(n)
}

// rest has the sign of what it is divided by; the language's own has the other one's.
func (c call) rest() api.Val {
	a, first := val.Int(c.single(0))
	b, second := val.Int(c.single(1))
	switch {
	case !first || !second:
		return fault(api.EValue)
	case b == 0:
		return fault(api.EDiv)
	}
	rest := a % b
	if rest != 0 && (rest < 0) != (b < 0) {
		rest += b
	}
	return number(rest)
}

func (c call) length() api.Val {
	return number(len(val.Text(c.single(0))))
}

func (c call) left() api.Val {
	n, ok := c.notBelow(1, 0)
	if !ok {
		return fault(api.EValue)
	}
	s := val.Text(c.single(0))
	return text(s[:min(n, len(s))])
}

func (c call) right() api.Val {
	n, ok := c.notBelow(1, 0)
	if !ok {
		return fault(api.EValue)
	}
	s := val.Text(c.single(0))
	return text(s[len(s)-min(n, len(s)):])
}

// middle cuts off what stands ahead, and then what is behind: a place and a number together may not go into 64 bits.
func (c call) middle() api.Val {
	place, first := c.notBelow(1, 1)
	n, second := c.notBelow(2, 0)
	if !first || !second {
		return fault(api.EValue)
	}
	s := val.Text(c.single(0))
	s = s[min(place-1, len(s)):]
	return text(s[:min(n, len(s))])
}

// notBelow tells the number that an argument is; false, if it is none, or below the least one.
func (c call) notBelow(i, least int) (n int, ok bool) {
	n, ok = val.Int(c.single(i))
	if !ok || n < least {
		return 0, false
	}
	return n, true
}

func (c call) isFault() api.Val {
	return truth(isError(c.single(0)))
}
