package val

import (
	"math"

	"chequer/api"
)

// numbers are what stands on both sides of an operator that reckons.
type numbers struct {
	a, b int
}

// sum goes round, if it does not go into 64 bits: then it is on the wrong side of a.
func (n numbers) sum() api.Val {
	sum := n.a + n.b
	return fitting(sum, (sum < n.a) == (n.b < 0))
}

func (n numbers) difference() api.Val {
	difference := n.a - n.b
	return fitting(difference, (difference > n.a) == (n.b < 0))
}

// product is undone by a division, where it has not gone round; but the least number is its own quotient by -1.
func (n numbers) product() api.Val {
	switch n.b {
	case 0:
		return number(0)
	case -1:
		return negative(n.a)
	}
	product := n.a * n.b
	return fitting(product, product/n.b == n.a)
}

// quotient is cut toward 0, as the language does it.
func (n numbers) quotient() api.Val {
	switch n.b {
	case 0:
		return fault(api.EDiv)
	case -1:
		return negative(n.a)
	}
	return number(n.a / n.b)
}

func negative(n int) api.Val {
	return fitting(-n, n != math.MinInt)
}

// fitting tells a number that goes into 64 bits, or that it does not.
func fitting(n int, fits bool) api.Val {
	if !fits {
		return fault(api.ENum)
	}
	return number(n)
}
