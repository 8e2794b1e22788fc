package fun

import (
	"slices"
	"strings"
	"testing"

	"chequer/api"
)

// without takes all that is nothing out of Ranges; more puts it in, ahead of each value and behind the last one.
func without(args []api.Arg) []api.Arg {
	return changed(args, func(vals []api.Val) (l []api.Val) {
		for _, v := range vals {
			if v != none {
				l = append(l, v)
			}
		}
		return l
	})
}

func more(args []api.Arg) []api.Arg {
	return changed(args, func(vals []api.Val) (l []api.Val) {
		for _, v := range vals {
			l = append(l, none, v)
		}
		return append(l, none, none)
	})
}

// changed makes Ranges of one column of the others.
func changed(args []api.Arg, change func([]api.Val) []api.Val) []api.Arg {
	l := slices.Clone(args)
	for i, a := range l {
		if a.Range {
			l[i] = span(1, change(a.Vals)...)
		}
	}
	return l
}

func expectNoneAlike(t *testing.T, name string, args []api.Arg) {
	t.Helper()
	want := Call(name, args)
	for _, other := range [][]api.Arg{without(args), more(args)} {
		if got := Call(name, other); got != want {
			t.Errorf("8.2: %s of%s:%s", name, brief(args...), brief(one(want)))
			t.Errorf("8.2: but of%s:%s", brief(other...), brief(one(got)))
		}
	}
}

func TestNoneInRanges(t *testing.T) {
	lists := [][]api.Arg{{mixed()}, {span(0)}, {span(1, none)}, {span(2, none, none), one(num(3))},
		{one(str("x")), span(1, none)}, {one(none), span(1, none)}, {span(1, none, num(-1))}, {span(1, num(5), none), one(none)},
		{span(1, not, none, yes)}, {span(2, none, str("x"))}, {span(1, no(api.EDiv), none, no(api.ENum))},
		{span(1, none, num(most), num(1), none)},
		{span(1, str(strings.Repeat("x", 200)), none)}, {span(1, str(strings.Repeat("x", 200)), none, str("y"))}}
	d := dice(82)
	for range 3_000 {
		lists = append(lists, d.arguments(1+d.roll(5)))
	}
	for _, name := range []string{"SUM", "MIN", "MAX", "COUNT", "AND", "OR", "CONCAT"} {
		for _, args := range lists {
			expectNoneAlike(t, name, args)
		}
	}
}

// TestNoneOfRowsAndColumns: these two hang on them, and those that take no Range tell so in each case.
func TestNoneOfRowsAndColumns(t *testing.T) {
	expect(t, "ROWS", spans(1, none, num(1), none), num(3))
	expect(t, "ROWS", spans(1, num(1)), num(1))
	expect(t, "COLS", spans(3, none, num(1), none), num(3))
	expect(t, "COLS", spans(1, num(1)), num(1))
	for _, name := range allNames() {
		if few, _ := takes(name); !ofRanges(name) && !ofOneRange(name) {
			expectNoneAlike(t, name, slices.Repeat(spans(1, none, num(1)), few))
		}
	}
}

// TestNoneAlone: a single one that is nothing is passed over as well by functions of Ranges.
func TestNoneAlone(t *testing.T) {
	d := dice(83)
	for _, name := range []string{"SUM", "MIN", "MAX", "COUNT", "AND", "OR", "CONCAT"} {
		for range 500 {
			args := d.arguments(1 + d.roll(4))
			at := d.roll(len(args) + 1)
			expect(t, name, slices.Insert(slices.Clone(args), at, one(none)), Call(name, args))
		}
	}
}
