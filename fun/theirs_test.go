package fun

import (
	"math/big"
	"strings"

	"chequer/api"
	"chequer/val"
)

// What the document says of functions, in another way: arguments are laid out flat, functions are told apart by a
// switch, numbers have any size.

// theirForms: how few and how many arguments each takes; s: none is a Range, r: each is one, b: both may be; e: errors
// are not told ahead.
func theirForms(name string) (least, most int, form string) {
	switch name {
	case "SUM", "MIN", "MAX", "AND", "OR", "CONCAT":
		return 1, 1000, "b"
	case "COUNT":
		return 1, 1000, "be"
	case "IF":
		return 2, 3, "se"
	case "NOT", "ABS", "LEN":
		return 1, 1, "s"
	case "MOD", "LEFT", "RIGHT":
		return 2, 2, "s"
	case "MID":
		return 3, 3, "s"
	case "ISERR":
		return 1, 1, "se"
	case "ROWS", "COLS":
		return 1, 1, "re"
	}
	return 0, 0, ""
}

// theirItem is a value, and whether it stands in a Range.
type theirItem struct {
	v  api.Val
	in bool
}

func theirCall(name string, args []api.Arg) api.Val {
	least, most, form := theirForms(name)
	if form == "" {
		return no(api.EName)
	}
	if len(args) < least || len(args) > most {
		return no(api.EValue)
	}
	var items []theirItem
	for _, a := range args {
		if a.Range && form[0] == 's' || !a.Range && form[0] == 'r' {
			return no(api.EValue)
		}
		for _, v := range a.Vals {
			items = append(items, theirItem{v, a.Range})
		}
	}
	if !strings.HasSuffix(form, "e") {
		for _, item := range items {
			if item.v.Kind == api.VErr {
				return item.v
			}
		}
	}
	if form[0] == 'b' {
		return theirMany(name, items)
	}
	return theirSingle(name, args, items)
}

func theirMany(name string, items []theirItem) api.Val {
	if name == "CONCAT" {
		return theirJoined(items)
	}
	var numbers []*big.Int
	var truths []bool
	for _, item := range items {
		kind := item.v.Kind
		if kind == api.VInt {
			numbers = append(numbers, big.NewInt(int64(item.v.N)))
		}
		if kind == api.VInt || kind == api.VBool {
			truths = append(truths, item.v.N != 0)
		}
	}
	if name == "COUNT" {
		return num(len(numbers))
	}
	for _, item := range items {
		wrong := item.v.Kind == api.VText || item.v.Kind == api.VBool && name != "AND" && name != "OR"
		if wrong && !item.in {
			return no(api.EValue)
		}
	}
	switch name {
	case "AND", "OR":
		return theirTruth(name, truths)
	case "SUM":
		return theirSum(numbers)
	}
	return theirExtreme(name, numbers)
}

func theirJoined(items []theirItem) api.Val {
	s := ""
	for _, item := range items {
		s += val.Text(item.v)
	}
	if len(s) > 200 {
		return no(api.EValue)
	}
	return str(s)
}

func theirTruth(name string, truths []bool) api.Val {
	if len(truths) == 0 {
		return no(api.EValue)
	}
	so := 0
	for _, is := range truths {
		if is {
			so++
		}
	}
	if name == "AND" {
		return bin(so == len(truths))
	}
	return bin(so > 0)
}

func theirSum(numbers []*big.Int) api.Val {
	sum := new(big.Int)
	for _, n := range numbers {
		if sum.Add(sum, n); !sum.IsInt64() {
			return no(api.ENum)
		}
	}
	return num(int(sum.Int64()))
}

func theirExtreme(name string, numbers []*big.Int) api.Val {
	if len(numbers) == 0 {
		return num(0)
	}
	one := numbers[0]
	for _, n := range numbers {
		if name == "MIN" && n.Cmp(one) < 0 || name == "MAX" && n.Cmp(one) > 0 {
			one = n
		}
	}
	return num(int(one.Int64()))
}

func theirSingle(name string, args []api.Arg, items []theirItem) api.Val {
	switch name {
	case "ROWS":
		return num(theirRows(args[0]))
	case "COLS":
		return num(args[0].Cols)
	case "ISERR":
		return bin(items[0].v.Kind == api.VErr)
	case "IF":
		return theirChoice(items)
	case "LEN":
		return num(len(val.Text(items[0].v)))
	case "NOT":
		switch items[0].v.Kind {
		case api.VText:
			return no(api.EValue)
		}
		return bin(items[0].v.N == 0)
	}
	return theirReckoned(name, items)
}

// theirRows takes rows off, one by one.
func theirRows(a api.Arg) int {
	n := 0
	for left := len(a.Vals); a.Cols > 0 && left >= a.Cols; left -= a.Cols {
		n++
	}
	return n
}

func theirChoice(items []theirItem) api.Val {
	first := items[0].v
	items = append(append([]theirItem(nil), items...), theirItem{v: bin(false)})
	switch {
	case first.Kind == api.VErr:
		return first
	case first.Kind == api.VText:
		return no(api.EValue)
	case first.N != 0:
		return items[1].v
	}
	return items[2].v
}

// theirReckoned are functions that ask for numbers.
func theirReckoned(name string, items []theirItem) api.Val {
	whole := val.Text(items[0].v)
	if name == "LEFT" || name == "RIGHT" || name == "MID" {
		items = items[1:]
	}
	var n []*big.Int
	for _, item := range items {
		if item.v.Kind == api.VText || item.v.Kind == api.VBool {
			return no(api.EValue)
		}
		n = append(n, big.NewInt(int64(item.v.N)))
	}
	switch name {
	case "ABS":
		if n[0].Abs(n[0]); !n[0].IsInt64() {
			return no(api.ENum)
		}
		return num(int(n[0].Int64()))
	case "MOD":
		return theirRest(n[0], n[1])
	}
	return theirPiece(name, whole, n)
}

// theirRest is a - b * floor(a / b), by numbers of any size.
func theirRest(a, b *big.Int) api.Val {
	if b.Sign() == 0 {
		return no(api.EDiv)
	}
	floor, rest := new(big.Int).QuoRem(a, b, new(big.Int))
	if rest.Sign()*b.Sign() < 0 {
		floor.Sub(floor, big.NewInt(1))
	}
	return num(int(new(big.Int).Sub(a, floor.Mul(floor, b)).Int64()))
}

// theirPiece takes the bytes whose places are in it, one by one.
func theirPiece(name, whole string, n []*big.Int) api.Val {
	size := big.NewInt(int64(len(whole)))
	begin, count := big.NewInt(0), n[len(n)-1]
	switch name {
	case "RIGHT":
		begin.Sub(size, count)
	case "MID":
		begin.Sub(n[0], big.NewInt(1))
		if begin.Sign() < 0 {
			return no(api.EValue)
		}
	}
	if count.Sign() < 0 {
		return no(api.EValue)
	}
	end := new(big.Int).Add(begin, count)
	s := ""
	for i := range len(whole) {
		at := big.NewInt(int64(i))
		if at.Cmp(begin) >= 0 && at.Cmp(end) < 0 {
			s += whole[i : i+1]
		}
	}
	return str(s)
}
