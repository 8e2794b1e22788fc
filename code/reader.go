package code

// reader goes through bytes: each of its methods takes what stands at its place, and moves the place behind it.
// Behind a false the place counts no more.
type reader struct {
	b  []byte
	at int
}

// read takes one part by a method value of r, and tells where the part ends.
func read[T any](r *reader, part func() (T, bool)) (T, int, bool) {
	v, ok := part()
	if !ok {
		var none T
		return none, 0, false
	}
	return v, r.at, true
}

// times takes n parts, one behind the other. The list grows as parts are found: a number of bytes alone is no
// reason to take room for that many.
func times[T any](n int, part func() (T, bool)) ([]T, bool) {
	var l []T
	for i := 0; i < n; i++ {
		v, ok := part()
		if !ok {
			return nil, false
		}
		l = append(l, v)
	}
	return l, true
}

// number takes a number, in no more bytes than it takes.
func (r *reader) number() (int, bool) {
	if r.at < 0 {
		return 0, false
	}
	n := 0
	for i := 0; i < maxBytes && r.at < len(r.b); i++ {
		c := r.b[r.at]
		r.at++
		n |= int(c%moreBit) << (bitsOfByte * i)
		if c >= moreBit {
			continue
		}
		if c == 0 && i > 0 {
			return 0, false
		}
		return n, true
	}
	return 0, false
}

// size takes a number of things that have one byte each at least: there can't be more of them than bytes are left.
func (r *reader) size() (int, bool) {
	n, ok := r.number()
	if !ok || n > len(r.b)-r.at {
		return 0, false
	}
	return n, true
}

// text takes a length and as many bytes.
func (r *reader) text() (string, bool) {
	n, ok := r.size()
	if !ok {
		return "", false
	}
	s := string(r.b[r.at : r.at+n])
	r.at += n
	return s, true
}

// list takes how many texts there are, and the texts.
func (r *reader) list() ([]string, bool) {
	n, ok := r.size()
	if !ok {
		return nil, false
	}
	return times(n, r.text)
}
