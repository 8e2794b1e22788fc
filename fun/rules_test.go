package fun

import (
	"math"
	"slices"
	"strings"
	"testing"

	"chequer/api"
)

func copied(args []api.Arg) []api.Arg {
	l := slices.Clone(args)
	for i := range l {
		l[i].Vals = slices.Clone(l[i].Vals)
	}
	return l
}

func same(a, b []api.Arg) bool {
	return slices.EqualFunc(a, b, func(x, y api.Arg) bool {
		return x.Range == y.Range && x.Cols == y.Cols && slices.Equal(x.Vals, y.Vals)
	})
}

// TestArgumentsStay: neither arguments nor values are changed, nor the room behind them, which isn't looked at either.
func TestArgumentsStay(t *testing.T) {
	d := dice(3)
	for range 2_000 {
		for _, name := range allNames() {
			args := d.suiting(name)
			want := Call(name, args)
			roomy := append(copied(args), one(no(api.ECycle)), span(1, num(77)))
			for i, a := range roomy {
				vals := append(slices.Clone(a.Vals), no(api.ENum), num(99))
				roomy[i].Vals = vals[:len(a.Vals)]
			}
			before := copied(roomy)
			if got := Call(name, roomy[:len(args)]); got != want {
				t.Errorf("R3: %s of%s:%s, with room%s", name, brief(args...), brief(one(want)), brief(one(got)))
			}
			if !same(roomy, before) {
				t.Errorf("R3: %s changed%s to%s", name, brief(before...), brief(roomy...))
			}
			for _, a := range roomy {
				if vals := a.Vals[:len(a.Vals)+2]; vals[len(a.Vals)] != no(api.ENum) || vals[len(a.Vals)+1] != num(99) {
					t.Errorf("R3: %s wrote behind%s", name, brief(a))
				}
			}
		}
	}
}

// TestNothingIsKept: a call hangs on no call ahead, and on nothing that is done to its arguments later on.
func TestNothingIsKept(t *testing.T) {
	d := dice(5)
	for range 500 {
		for _, name := range allNames() {
			args := d.suiting(name)
			first := Call(name, args)
			clone := copied(args)
			for i := range args {
				for j := range args[i].Vals {
					args[i].Vals[j] = no(api.ECycle)
				}
			}
			Call(name, args)
			expect(t, name, clone, first)
		}
	}
}

// TestNilAndEmpty: a Range of a nil list is one of an empty list.
func TestNilAndEmpty(t *testing.T) {
	for _, name := range allNames() {
		for _, cols := range []int{0, 1, 3} {
			bare := api.Arg{Range: true, Cols: cols}
			expect(t, name, []api.Arg{{Range: true, Cols: cols, Vals: []api.Val{}}}, Call(name, []api.Arg{bare}))
		}
	}
}

// TestOnlyWhatIsMeant: a value has zero in all that its kind does not ask for.
func TestOnlyWhatIsMeant(t *testing.T) {
	d := dice(9)
	for range 3_000 {
		for _, name := range allNames() {
			v := Call(name, d.suiting(name))
			number := v.Kind == api.VInt || v.Kind == api.VBool && (v.N == 0 || v.N == 1) ||
				v.Kind == api.VErr && v.N >= api.EValue && v.N <= api.ECycle
			if !(v.N == 0 || number) || !(v.S == "" || v.Kind == api.VText && len(v.S) <= api.MaxResult) {
				t.Errorf("R4: %s:%s", name, brief(one(v)))
			}
		}
	}
}

func TestLong(t *testing.T) {
	const n = 200_000
	ones := slices.Repeat([]api.Val{num(1), none}, n)
	expect(t, "SUM", spans(2, ones...), num(n))
	expect(t, "MAX", spans(4, ones...), num(1))
	expect(t, "COUNT", spans(1, ones...), num(n))
	expect(t, "AND", spans(1, ones...), yes)
	expect(t, "ROWS", spans(2, ones...), num(n))
	expect(t, "CONCAT", spans(2, ones...), no(api.EValue))
	expect(t, "SUM", nums(slices.Repeat([]int{2}, n)...), num(2*n))
	expect(t, "OR", slices.Repeat(each(num(0)), n), not)
	expect(t, "IF", slices.Repeat(each(num(0)), n), no(api.EValue))
}

// TestBroken takes what is no argument, and no value: nothing is said of it, but that a call ends.
func TestBroken(t *testing.T) {
	var args []api.Arg
	for _, kind := range []int{math.MinInt, -1, 0, 1, 2, 3, 4, 5, math.MaxInt} {
		for _, n := range []int{-1, 2, math.MaxInt} {
			v := api.Val{Kind: kind, N: n, S: strings.Repeat("x", 300)}
			args = append(args, one(v), span(1, v))
		}
	}
	for _, cols := range []int{math.MinInt, -1, 0, 1, 2, 3, math.MaxInt} {
		args = append(args, span(cols), span(cols, num(1)), span(cols, num(1), none, str("x"), yes, not))
		args = append(args, api.Arg{Cols: cols}, api.Arg{Cols: cols, Vals: []api.Val{num(1), str("x"), no(0)}})
	}
	for _, name := range allNames() {
		for _, a := range args {
			for _, b := range args {
				Call(name, []api.Arg{a})
				Call(name, []api.Arg{a, b})
				Call(name, []api.Arg{one(str("abc")), a, b})
			}
		}
	}
}
