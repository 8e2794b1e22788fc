package fun

import (
	"slices"
	"strings"
	"testing"

	"chequer/api"
)

func TestNoSuchName(t *testing.T) {
	names := []string{"", " ", "NIX", "SUM ", " SUM", "SU", "SUMM", "SUM1", "SUM(", "AVERAGE", "TRUE", "FALSE", "A1",
		"S\x00UM", "SUM\x00", "\xff", "ЅUM", "IFF", "ANDOR", "SUM,MIN", strings.Repeat("SUM", 1000), "sum", "Sum", "suM"}
	for _, name := range allNames() {
		small := strings.ToLower(name)
		names = append(names, small, name[:1]+small[1:], small[:1]+name[1:], name[:len(name)-1], name+"S", name+name)
	}
	lists := [][]api.Arg{nil, {}, each(num(1)), each(no(api.EDiv)), spans(1, no(api.EValue)), nums(1, 2, 3, 4),
		{mixed(), one(no(api.ERef))}}
	for _, name := range names {
		for _, args := range lists {
			expect(t, name, args, no(api.EName))
		}
	}
}

// takes tells how few and how many arguments a function takes; -1: there is no greatest number.
func takes(name string) (few, many int) {
	switch name {
	case "IF":
		return 2, 3
	case "NOT", "ABS", "LEN", "ISERR", "ROWS", "COLS":
		return 1, 1
	case "MOD", "LEFT", "RIGHT":
		return 2, 2
	case "MID":
		return 3, 3
	}
	return 1, -1
}

func ofRanges(name string) bool {
	return slices.Contains([]string{"SUM", "MIN", "MAX", "COUNT", "AND", "OR", "CONCAT"}, name)
}

func ofOneRange(name string) bool {
	return name == "ROWS" || name == "COLS"
}

// plain tells so many arguments that suit a function, but for their number.
func plain(name string, n int) []api.Arg {
	if ofOneRange(name) {
		return slices.Repeat([]api.Arg{mixed()}, n)
	}
	return slices.Repeat(nums(1), n)
}

func TestNumberOfArguments(t *testing.T) {
	for _, name := range allNames() {
		few, many := takes(name)
		for n := range 8 {
			got := Call(name, plain(name, n))
			suits := n >= few && (many < 0 || n <= many)
			if (got != no(api.EValue)) != suits {
				t.Errorf("8.1: %s of %d arguments:%s", name, n, brief(one(got)))
			}
		}
		if many < 0 {
			if got := Call(name, plain(name, 300)); name != "CONCAT" && got.Kind == api.VErr {
				t.Errorf("8.1: %s of 300 arguments:%s", name, brief(one(got)))
			}
		}
		expect(t, name, nil, no(api.EValue))
		expect(t, name, []api.Arg{}, no(api.EValue))
	}
}

// TestNumberAheadOfErrors: that there are too few or too many arguments is told ahead of errors among them.
func TestNumberAheadOfErrors(t *testing.T) {
	for _, name := range allNames() {
		few, many := takes(name)
		for n := range 8 {
			if n >= few && (many < 0 || n <= many) {
				continue
			}
			for _, e := range allErrors() {
				expect(t, name, slices.Repeat(each(e), n), no(api.EValue))
				expect(t, name, slices.Repeat(spans(1, e), n), no(api.EValue))
			}
		}
	}
}

// TestForms: a Range in each place where none is said, also beside errors.
func TestForms(t *testing.T) {
	lists := [][]api.Val{{num(1)}, {}, {none}, {no(api.EDiv)}, {no(api.ENum), num(3), str("x")}}
	for _, name := range allNames() {
		if ofRanges(name) || ofOneRange(name) {
			continue
		}
		few, many := takes(name)
		for n := few; n <= many; n++ {
			for at := range n {
				for _, vals := range lists {
					for _, other := range []api.Val{num(1), no(api.ERef)} {
						args := slices.Repeat(each(other), n)
						args[at] = span(1, vals...)
						expect(t, name, args, no(api.EValue))
					}
				}
			}
		}
	}
}

func TestFormsThatSuit(t *testing.T) {
	for _, name := range allNames() {
		if !ofRanges(name) {
			continue
		}
		for _, args := range [][]api.Arg{nums(1, 2), {mixed()}, {span(1, num(1)), one(num(1)), mixed()}} {
			if got := Call(name, args); got.Kind == api.VErr {
				t.Errorf("8.1: %s of%s:%s", name, brief(args...), brief(one(got)))
			}
		}
	}
}

// TestFirstError: in the order of the arguments, in a Range by its rows, whatever else is wrong with the values.
func TestFirstError(t *testing.T) {
	others := []api.Val{none, num(0), num(least), str(""), str("x"), str(strings.Repeat("x", 200)), yes, not}
	for _, name := range allNames() {
		few, many := takes(name)
		if slices.Contains([]string{"COUNT", "IF", "ISERR", "ROWS", "COLS"}, name) {
			continue
		}
		n := few
		if many < 0 {
			n = 3
		}
		for at := range n {
			for _, e := range allErrors() {
				for _, v := range others {
					args := slices.Repeat(each(v), n)
					args[at] = one(e)
					expect(t, name, args, e)
					for _, f := range allErrors() {
						later := slices.Clone(args)
						for i := at + 1; i < n; i++ {
							later[i] = one(f)
						}
						expect(t, name, later, e)
					}
				}
			}
		}
	}
}

func TestFirstErrorInRanges(t *testing.T) {
	for _, name := range allNames() {
		if !ofRanges(name) || name == "COUNT" {
			continue
		}
		for _, e := range allErrors() {
			for _, f := range allErrors() {
				expect(t, name, spans(2, num(1), e, f, none), e)
				expect(t, name, []api.Arg{span(1, num(1), str("x"), e), one(f)}, e)
				expect(t, name, []api.Arg{one(num(1)), one(e), span(1, f)}, e)
				expect(t, name, []api.Arg{span(1), one(str("x")), span(2, none, e), span(1, f)}, e)
			}
		}
	}
}

// allArguments are some of each form: each kind of value alone, Ranges of nothing, of several rows and columns, with
// errors, with sums that do not go in.
func allArguments() []api.Arg {
	args := each(none, num(0), num(2), num(-3), num(most), num(least), str(""), str("ab"), str(strings.Repeat("z", 150)),
		yes, not, no(api.EValue), no(api.EDiv))
	return append(args, span(0), span(2), span(1, none), mixed(), span(1, str("x")),
		span(1, num(most), num(1), num(-1)), span(2, num(1), no(api.ERef), none, no(api.ENum)))
}

// TestAll holds each function, of each list of up to three arguments, against the other way.
func TestAll(t *testing.T) {
	l := allArguments()
	for _, name := range append(allNames(), "NIX", "sum") {
		expect(t, name, nil, theirCall(name, nil))
		for _, a := range l {
			expect(t, name, []api.Arg{a}, theirCall(name, []api.Arg{a}))
			for _, b := range l {
				expect(t, name, []api.Arg{a, b}, theirCall(name, []api.Arg{a, b}))
				for _, c := range l {
					args := []api.Arg{a, b, c}
					expect(t, name, args, theirCall(name, args))
				}
			}
		}
	}
}

// dice are numbers from a rule: the same in every run.
type dice uint64

func (d *dice) roll(n int) int {
	*d = *d*6364136223846793005 + 1442695040888963407
	return int(uint64(*d) >> 33 % uint64(n))
}

// number has any length, on both sides of nought.
func (d *dice) number() int {
	n := d.roll(1<<31)<<33 ^ d.roll(1<<31)<<16 ^ d.roll(1<<31)
	return n >> d.roll(64)
}

func (d *dice) value() api.Val {
	switch d.roll(16) {
	case 0, 1, 2:
		return none
	case 3:
		return bin(d.roll(2) == 0)
	case 4, 5:
		return str(strings.Repeat("aé\x00", 40)[:d.roll(4)*d.roll(30)])
	case 6:
		if d.roll(3) == 0 {
			return no(1 + d.roll(6))
		}
	case 7, 8, 9:
		return num(d.roll(9) - 3)
	}
	return num(d.number())
}

func (d *dice) argument() api.Arg {
	if d.roll(3) > 0 {
		return one(d.value())
	}
	cols, rows := d.roll(5), d.roll(5)
	var vals []api.Val
	for range cols * rows {
		vals = append(vals, d.value())
	}
	return span(cols, vals...)
}

func (d *dice) arguments(n int) []api.Arg {
	var args []api.Arg
	for range n {
		args = append(args, d.argument())
	}
	return args
}

// suiting tells arguments of which most lists suit a function.
func (d *dice) suiting(name string) []api.Arg {
	few, many := takes(name)
	if many < 0 {
		many = 6
	}
	args := d.arguments(few + d.roll(many-few+1))
	for i := range args {
		for args[i].Range && !ofRanges(name) && !ofOneRange(name) {
			args[i] = one(d.value())
		}
	}
	return args
}

func TestRolled(t *testing.T) {
	d := dice(8)
	for range 20_000 {
		for _, name := range allNames() {
			args := d.suiting(name)
			expect(t, name, args, theirCall(name, args))
		}
		name, args := allNames()[d.roll(18)], d.arguments(d.roll(5))
		expect(t, name, args, theirCall(name, args))
	}
}
