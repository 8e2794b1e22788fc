package cell

import (
	"strconv"
	"strings"
	"testing"

	"chequer/api"
	"chequer/parse"
	"chequer/show"
)

// each calls f with all texts of so many bytes of a set.
func each(set string, n int, f func(string)) {
	if n == 0 {
		f("")
		return
	}
	for _, c := range []byte(set) {
		each(set, n-1, func(s string) { f(string([]byte{c}) + s) })
	}
}

// 9.1, 9.2: all short texts.
func TestAllShort(t *testing.T) {
	for n := range 6 {
		each("'=-+019 A(\x00", n, func(s string) { check(t, s) })
	}
	for n := range 8 {
		each("-09'", n, func(s string) { check(t, s) })
	}
}

// 9.1: a formula may be, if it is the Print of any that layer 5 takes: no Print is longer than what it is of.
func TestAllPrints(t *testing.T) {
	checkPrints(t, "1A(-+ )=F:\"", 5, 300)
	checkPrints(t, "1(- )+", 7, 300)
}

// checkPrints tries it with all texts of up to so many bytes of a set; so many Prints are expected at least.
func checkPrints(t *testing.T, set string, most, few int) {
	t.Helper()
	prints := map[string]bool{}
	for n := range most + 1 {
		each(set, n, func(s string) {
			l, e := parse.Parse(s)
			if e != api.OK {
				return
			}
			p := show.Print(l)
			if len(p) > len(s) {
				t.Fatalf("Print of %q is longer", s)
			}
			prints[p] = true
		})
	}
	for n := range most + 1 {
		each(set, n, func(s string) {
			l, ok := Formula("=" + s)
			if ok != prints[s] || May("="+s) != prints[s] || ok && show.Print(l) != s {
				t.Fatalf("9.1: %q: %v", "="+s, ok)
			}
		})
	}
	if len(prints) < few {
		t.Errorf("too few formulas of %q: %d", set, len(prints))
	}
}

// outcome tells by a word what Norm makes of s.
func outcome(s string) string {
	told, e := Norm(s)
	switch {
	case e != api.OK:
		return "error " + strconv.Itoa(int(e))
	case told == "":
		return "empty"
	case told[0] == '\'':
		return "text"
	case told[0] == '=':
		return "formula"
	}
	return "number"
}

// 9.1, 9.2: texts of each kind, and what Norm tells of them.
func TestAny(t *testing.T) {
	d := dice(1)
	count := map[string]int{}
	for range 30000 {
		s := d.anyCell()
		check(t, s)
		count[outcome(s)]++
	}
	for _, o := range []string{"error 4", "error 5", "error 6", "empty", "text", "formula", "number"} {
		if count[o] < 300 {
			t.Errorf("too few of one kind: %s: %v", o, count)
		}
	}
}

// 9.1, 9.2: formulas with blanks and brackets that need not stand, as they are put in and changed by one byte.
func TestAnyFormula(t *testing.T) {
	d := dice(2)
	shorter, stays := 0, 0
	for range 15000 {
		s := "=" + d.formula(1+d.below(4))
		check(t, s)
		told, e := Norm(s)
		if e == api.OK && told == s {
			stays++
		} else if e == api.OK {
			shorter++
		}
		at := d.below(len(s))
		check(t, s[:at]+d.anyOf("", " ", "(", ")", "'", "=", "0", "a", "\x00")+s[at:])
		check(t, s[:at]+s[at+1:])
	}
	if shorter < 1000 || stays < 1000 {
		t.Errorf("too few: %d shorter, %d that stay", shorter, stays)
	}
}

// 9.1: what may be, of each length up to MaxCell and beyond it.
func TestLengths(t *testing.T) {
	for n := range api.MaxCell + 10 {
		for _, s := range []string{x(n), "'" + x(n), noughts(n), "-" + noughts(n) + "1", strings.Repeat("7", n), strings.Repeat(" ", n), "=" + strings.Repeat(" ", n) + "1", "=\"" + x(n) + "\"", "=" + strings.Repeat("7", n), "=1" + strings.Repeat("+1", n)} {
			check(t, s)
		}
		if e := normError("'" + x(n)); (e == api.OK) != (n < api.MaxText) {
			t.Errorf("9.1: Norm of a ' and %d bytes: %d", n, e)
		}
		if May("'"+x(n)) != (n < api.MaxCell) {
			t.Errorf("9.1: May of a ' and %d bytes", n)
		}
		if (Plain("'"+x(n)).Kind == api.VText) != (n <= api.MaxResult) {
			t.Errorf("9.1: Plain of a ' and %d bytes", n)
		}
	}
}

func normError(s string) api.Errno {
	_, e := Norm(s)
	return e
}

// R1: texts that are far too long end each call.
func TestHuge(t *testing.T) {
	const huge = 1 << 22
	for _, s := range []string{"", "'", "=", "-", "=\"", "=(", "5", "-5"} {
		for _, c := range []string{"x", "0", "9", " ", "(", "-", "'", "\x00"} {
			long := s + strings.Repeat(c, huge)
			l, ok := Formula(long)
			if told, e := Norm(long); told != "" || e != api.ErrLarge || May(long) || l != nil || ok || Plain(long) != (api.Val{Kind: api.VErr, N: api.EValue}) {
				t.Errorf("9.1: %q and %q, far too long: %d", s, c, e)
			}
		}
	}
}
