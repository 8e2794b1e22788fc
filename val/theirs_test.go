package val

import (
	"fmt"
	"math"
	"math/big"

	"chequer/api"
)

// What the document says of values, in another way: numbers of any size, kinds one by one, bytes one by one.

func theirText(v api.Val) string {
	switch v.Kind {
	case 0:
		return ""
	case 1:
		return fmt.Sprint(v.N)
	case 2:
		return v.S
	case 3:
		return map[int]string{0: "FALSE", 1: "TRUE"}[v.N]
	}
	return map[int]string{1: "#VALUE!", 2: "#NUM!", 3: "#DIV0!", 4: "#REF!", 5: "#NAME!", 6: "#CYCLE!"}[v.N]
}

func theirInt(v api.Val) (*big.Int, bool) {
	if v.Kind > 1 {
		return nil, false
	}
	return big.NewInt(int64(v.N)), true
}

func theirError(n int) api.Val {
	return api.Val{Kind: 4, N: n}
}

// theirNumber cuts no number off.
func theirNumber(n *big.Int) api.Val {
	if n.Cmp(big.NewInt(math.MinInt64)) < 0 || n.Cmp(big.NewInt(math.MaxInt64)) > 0 {
		return theirError(2)
	}
	return api.Val{Kind: 1, N: int(n.Int64())}
}

func theirNeg(v api.Val) api.Val {
	if v.Kind == 4 {
		return v
	}
	n, ok := theirInt(v)
	if !ok {
		return theirError(1)
	}
	return theirNumber(n.Neg(n))
}

func theirTwo(kind int, a, b api.Val) api.Val {
	switch {
	case a.Kind == 4:
		return a
	case b.Kind == 4:
		return b
	case kind >= 16 && kind <= 19:
		return theirReckoned(kind, a, b)
	case kind == 15:
		if s := theirText(a) + theirText(b); len(s) <= 200 {
			return api.Val{Kind: 2, S: s}
		}
		return theirError(1)
	case kind >= 9 && kind <= 14:
		return theirHeld(kind, a, b)
	}
	return theirError(1)
}

func theirReckoned(kind int, a, b api.Val) api.Val {
	x, first := theirInt(a)
	y, second := theirInt(b)
	if !first || !second {
		return theirError(1)
	}
	z := new(big.Int)
	switch kind {
	case 16:
		z.Add(x, y)
	case 17:
		z.Sub(x, y)
	case 18:
		z.Mul(x, y)
	case 19:
		if y.Sign() == 0 {
			return theirError(3)
		}
		z.Quo(x, y)
	}
	return theirNumber(z)
}

func theirHeld(kind int, a, b api.Val) api.Val {
	above, below := theirAbove(a, b), theirAbove(b, a)
	is := map[int]bool{9: !above && !below, 10: above || below, 11: below, 12: !above, 13: above, 14: !below}[kind]
	if is {
		return api.Val{Kind: 3, N: 1}
	}
	return api.Val{Kind: 3}
}

// theirAbove tells whether a is above b, each kind beside each other one.
func theirAbove(a, b api.Val) bool {
	switch [2]int{a.Kind, b.Kind} {
	case [2]int{0, 1}:
		return b.N < 0
	case [2]int{1, 0}:
		return a.N > 0
	case [2]int{2, 0}:
		return len(a.S) > 0
	case [2]int{3, 0}:
		return a.N == 1
	case [2]int{1, 1}:
		return a.N > b.N
	case [2]int{2, 2}:
		return theirTextAbove(a.S, b.S)
	case [2]int{3, 3}:
		return a.N == 1 && b.N == 0
	case [2]int{2, 1}, [2]int{3, 1}, [2]int{3, 2}:
		return true
	}
	return false
}

func theirTextAbove(a, b string) bool {
	for i := 0; i < len(a); i++ {
		if i == len(b) || a[i] > b[i] {
			return true
		}
		if a[i] < b[i] {
			return false
		}
	}
	return false
}
