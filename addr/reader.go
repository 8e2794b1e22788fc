package addr

import (
	"strings"

	"chequer/api"
)

// reader goes through the text of a reference: each of its methods takes the part that stands at its place into the
// reference, and moves the place behind it. Behind a false neither counts any more.
type reader struct {
	text string
	at   int
	ref  api.Ref
}

// all takes parts by method values of a reader, one behind the other; the first that is not there ends it.
func all(parts ...func() bool) bool {
	for _, part := range parts {
		if !part() {
			return false
		}
	}
	return true
}

// sheet takes a name with its mark; without any mark there is no sheet to take.
func (r *reader) sheet() bool {
	mark := strings.IndexByte(r.text, sheetMark)
	if mark < 0 {
		return true
	}
	r.ref.Sheet, r.at = r.text[:mark], mark+1
	return Name(r.ref.Sheet)
}

// absCol takes the mark ahead of a column, which may be missing.
func (r *reader) absCol() bool {
	r.ref.AbsCol = r.mark()
	return true
}

// absRow takes the mark ahead of a row, which may be missing.
func (r *reader) absRow() bool {
	r.ref.AbsRow = r.mark()
	return true
}

// mark tells whether one stood there, and goes behind it.
func (r *reader) mark() bool {
	if r.at == len(r.text) || r.text[r.at] != absMark {
		return false
	}
	r.at++
	return true
}

// col takes all capital letters that stand there. An A counts 1, not 0, as AA is another column than A; it ends as soon
// as no column is that great, so that no number runs over, however many letters there are.
func (r *reader) col() bool {
	n := 0
	for r.at < len(r.text) && isCapital(r.text[r.at]) {
		n = n*letters + int(r.text[r.at]-'A') + 1
		if n > api.MaxCol+1 {
			return false
		}
		r.at++
	}
	r.ref.Col = n - 1
	return n > 0
}

// row takes all digits that stand there, without noughts ahead; it ends as soon as no row is that great, as col does.
func (r *reader) row() bool {
	n := 0
	for r.at < len(r.text) && isDigit(r.text[r.at]) {
		n = n*10 + int(r.text[r.at]-'0')
		if n == 0 || n > api.MaxRow+1 {
			return false
		}
		r.at++
	}
	r.ref.Row = n - 1
	return n > 0
}

// end holds behind the last byte alone.
func (r *reader) end() bool {
	return r.at == len(r.text)
}
