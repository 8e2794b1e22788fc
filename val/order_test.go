package val

import (
	"math"
	"slices"
	"testing"

	"chequer/api"
)

// rising are values of which each is below all that stand behind it.
func rising() []api.Val {
	var l []api.Val
	for _, n := range []int{math.MinInt, math.MinInt + 1, -1 << 32, -12, -2, -1, 0, 1, 2, 12, 1 << 32, math.MaxInt - 1,
		math.MaxInt} {
		l = append(l, num(n))
	}
	for _, s := range []string{"", "\x00", "-5", "10", "9", "A", "AA", "AB", "B", "Z", "a", "a\x00", "a ", "aa", "ab", "b",
		"\x7f", "\x80", "\xff", "\xff\xff"} {
		l = append(l, str(s))
	}
	return append(l, not, yes)
}

// held tells the six comparisons of two values: false, if one of them is no truth.
func held(a, b api.Val) (l [6]bool, ok bool) {
	for i := range l {
		switch Two(api.NEq+i, a, b) {
		case yes:
			l[i] = true
		case not:
		default:
			return l, false
		}
	}
	return l, true
}

var (
	alike = [6]bool{true, false, false, true, false, true}
	below = [6]bool{false, true, true, true, false, false}
	above = [6]bool{false, true, false, false, true, true}
)

func expectHeld(t *testing.T, promise string, a, b api.Val, want [6]bool) {
	t.Helper()
	if l, ok := held(a, b); !ok || l != want {
		t.Errorf("%s: %s beside %s: %v", promise, brief(a), brief(b), l)
	}
}

func TestRising(t *testing.T) {
	l := rising()
	for i, a := range l {
		for j, b := range l {
			want := alike
			if i < j {
				want = below
			} else if i > j {
				want = above
			}
			expectHeld(t, "7.2, 7.3", a, b, want)
		}
	}
}

// TestNothing holds nothing against each kind: it counts as what the other one is.
func TestNothing(t *testing.T) {
	expectHeld(t, "7.2", none, none, alike)
	for _, v := range rising() {
		want := alike
		switch {
		case v.Kind == api.VInt && v.N < 0:
			want = above
		case v != num(0) && v != str("") && v != not:
			want = below
		}
		expectHeld(t, "7.2", none, v, want)
		turned := map[[6]bool][6]bool{alike: alike, above: below, below: above}[want]
		expectHeld(t, "7.2", v, none, turned)
	}
}

// TestOrder asks of all values that are no errors whether one and only one of the three ways of two values holds, the
// same one turned round; and, of those with something in them, of three whether what is ahead of what is ahead is.
func TestOrder(t *testing.T) {
	l := slices.DeleteFunc(allValues(), func(v api.Val) bool { return v.Kind == api.VErr })
	for _, a := range l {
		expectHeld(t, "7.3", a, a, alike)
		for _, b := range l {
			there, _ := held(a, b)
			back := map[[6]bool][6]bool{alike: alike, above: below, below: above}[there]
			expectHeld(t, "7.3", b, a, back)
			if there == alike && a != b && a.Kind != api.VNone && b.Kind != api.VNone {
				t.Errorf("7.3: %s and %s are alike", brief(a), brief(b))
			}
		}
	}
	l = rising()
	for _, a := range l {
		for _, b := range l {
			for _, c := range l {
				if Two(api.NLe, a, b) == yes && Two(api.NLe, b, c) == yes && Two(api.NLe, a, c) != yes {
					t.Errorf("7.3: %s, %s, %s", brief(a), brief(b), brief(c))
				}
			}
		}
	}
}

// TestSorted sorts values by Two alone, from each place on.
func TestSorted(t *testing.T) {
	want := rising()
	for at := range want {
		l := append(slices.Clone(want[at:]), want[:at]...)
		slices.Reverse(l)
		slices.SortFunc(l, func(a, b api.Val) int { return Two(api.NGt, a, b).N - Two(api.NLt, a, b).N })
		if !slices.Equal(l, want) {
			t.Fatalf("7.3: sorted from %d on: %v", at, l)
		}
	}
}
