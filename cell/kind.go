package cell

import "strconv"

const (
	textMark    = '\''
	formulaMark = '='
	minus       = '-'
)

// Kinds of cells.
const (
	kindEmpty = iota
	kindText
	kindFormula
	kindNumber // as it begins: the rest may be of no number
	kindNone
)

// kindOf tells a cell's kind by its first byte.
func kindOf(s string) int {
	switch {
	case s == "":
		return kindEmpty
	case s[0] == textMark:
		return kindText
	case s[0] == formulaMark:
		return kindFormula
	case s[0] == minus || isDigit(s[0]):
		return kindNumber
	}
	return kindNone
}

// whole tells which number of 64 bits s is; false: it is none. It is asked only of what begins as a number does: Atoi
// takes a `+` ahead, too.
func whole(s string) (int, bool) {
	n, err := strconv.Atoi(s)
	return n, err == nil
}

// decimal tells which number s is, if it is written as numbers are kept: without noughts ahead.
func decimal(s string) (int, bool) {
	n, ok := whole(s)
	return n, ok && strconv.Itoa(n) == s
}

func isDigit(c byte) bool {
	return '0' <= c && c <= '9'
}
