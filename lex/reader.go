package lex

import (
	"strconv"
	"strings"

	"chequer/addr"
	"chequer/api"
)

// reader goes through the text of a formula: each of its methods takes the token that begins at its place, and moves
// the place behind it. Behind a false neither the token nor the place counts any more.
type reader struct {
	text string
	at   int
}

// methodOf tells by which method what begins with c is read. Of a byte that begins nothing it is the one of signs,
// which finds none.
func methodOf(c byte) func(*reader) (api.Token, bool) {
	switch {
	case isDigit(c):
		return (*reader).number
	case c == textMark:
		return (*reader).quoted
	case c == deadMark:
		return (*reader).dead
	case beginsWord(c):
		return (*reader).word
	}
	return (*reader).sign
}

// token takes the next one; there is a byte at the reader's place.
func (r *reader) token() (api.Token, bool) {
	at := r.at
	t, ok := methodOf(r.text[at])(r)
	t.At = at
	return t, ok
}

func (r *reader) skipBlanks() {
	r.while(isBlank)
}

// while takes the bytes that are of a kind, as far as they go.
func (r *reader) while(is func(byte) bool) string {
	from := r.at
	for r.at < len(r.text) && is(r.text[r.at]) {
		r.at++
	}
	return r.text[from:r.at]
}

// number takes all digits that stand there.
func (r *reader) number() (api.Token, bool) {
	digits := r.while(isDigit)
	if digits[0] == '0' && len(digits) > 1 {
		return api.Token{}, false
	}
	n, err := strconv.Atoi(digits)
	return api.Token{Kind: api.TokNum, Num: n}, err == nil
}

// quoted takes a text and the marks around it; two marks within it are one of its bytes.
func (r *reader) quoted() (api.Token, bool) {
	var b []byte
	for r.at++; r.at < len(r.text); r.at++ {
		c := r.text[r.at]
		if c < minText {
			return api.Token{}, false
		}
		if c == textMark {
			r.at++
			if r.at == len(r.text) || r.text[r.at] != textMark {
				return api.Token{Kind: api.TokText, Text: string(b)}, true
			}
		}
		b = append(b, c)
	}
	return api.Token{}, false
}

// dead takes what stands for a reference to what is gone.
func (r *reader) dead() (api.Token, bool) {
	return api.Token{Kind: api.TokDead}, r.take(dead)
}

// word takes all that a reference or a name may be made of, and tells which of them it is.
func (r *reader) word() (api.Token, bool) {
	s := r.while(isOfWord)
	if ref, ok := addr.Read(s); ok {
		return api.Token{Kind: api.TokRef, Ref: ref}, true
	}
	return api.Token{Kind: api.TokName, Text: s}, isName(s)
}

// sign takes the longest one that stands there.
func (r *reader) sign() (api.Token, bool) {
	for _, s := range signs {
		if r.take(s) {
			return api.Token{Kind: api.TokSign, Text: s}, true
		}
	}
	return api.Token{}, false
}

// take tells whether s stood there, and goes behind it.
func (r *reader) take(s string) bool {
	if !strings.HasPrefix(r.text[r.at:], s) {
		return false
	}
	r.at += len(s)
	return true
}
