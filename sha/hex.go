package sha

const hexDigits = "0123456789abcdef"

// Hex writes two digits a byte.
func Hex(s string) string {
	b := make([]byte, 0, 2*len(s))
	for i := 0; i < len(s); i++ {
		b = append(b, hexDigits[s[i]>>4], hexDigits[s[i]&15])
	}
	return string(b)
}

// Unhex tells the bytes whose Hex s is; false: there are none.
func Unhex(s string) (string, bool) {
	if len(s)%2 != 0 {
		return "", false
	}
	b := make([]byte, 0, len(s)/2)
	for i := 0; i < len(s); i += 2 {
		high, okHigh := digitValue(s[i])
		low, okLow := digitValue(s[i+1])
		if !okHigh || !okLow {
			return "", false
		}
		b = append(b, high<<4|low)
	}
	return string(b), true
}

// digitValue takes small letters alone, as Hex writes no other.
func digitValue(c byte) (byte, bool) {
	switch {
	case '0' <= c && c <= '9':
		return c - '0', true
	case 'a' <= c && c <= 'f':
		return c - 'a' + 10, true
	}
	return 0, false
}
