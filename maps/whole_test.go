package maps

import (
	"math"
	"slices"
	"testing"

	"chequer/api"
)

// 11.1: all small lists of numbers, with each New: those that the document lets be, and all others.
func TestMaySmall(t *testing.T) {
	const least, above = -3, 5
	for size := range 5 {
		l := slices.Repeat([]int{least}, size)
		for more := true; more; more = next(l, least, above) {
			for now := -2; now < above; now++ {
				m := api.Map{To: l, New: now}
				if f := faults(m); May(m) != (len(f) == 0) {
					t.Fatalf("11.1: May of %s: %v: %q", dump(m), May(m), f)
				}
			}
		}
	}
}

// next turns l into the next list of numbers from least to above - 1; false: it was the last one.
func next(l []int, least, above int) bool {
	for i := range l {
		l[i]++
		if l[i] < above {
			return true
		}
		l[i] = least
	}
	return false
}

// 11.1: Same, Ins and Del of all small numbers, at all places and beside them.
func TestMadeSmall(t *testing.T) {
	for n := -3; n < 12; n++ {
		told(t, "11.1: Same", Same(n), theirSame(n))
		check(t, Same(n))
		for at := -4; at < 15; at++ {
			told(t, "11.1: Ins", Ins(n, at), theirIns(n, at))
			told(t, "11.1: Del", Del(n, at), theirDel(n, at))
			check(t, Ins(n, at))
			check(t, Del(n, at))
		}
	}
}

// 11.2, 11.3: all small maps, alone and two by two.
func TestAllSmall(t *testing.T) {
	for _, m := range upTo(5) {
		check(t, m)
	}
	l := upTo(4)
	for _, a := range l {
		for _, b := range l {
			checkThen(t, a, b)
		}
	}
}

// 11.3: three ways, one behind another: it does not matter which two are put together first; and the ways back.
func TestThenThen(t *testing.T) {
	l := upTo(3)
	for _, a := range l {
		for _, b := range l {
			if len(b.To) != a.New {
				continue
			}
			told(t, "11.3: Back of Then", Back(Then(a, b)), Then(Back(b), Back(a)))
			for _, c := range l {
				if len(c.To) == b.New {
					told(t, "11.3: Then of Then", Then(Then(a, b), c), Then(a, Then(b, c)))
				}
			}
		}
	}
}

// 11.1, 11.2, 11.3: maps of any size, and what is close to one.
func TestAny(t *testing.T) {
	d := dice(1)
	count := map[bool]int{}
	for range 1500 {
		a := d.chart(d.below(12), d.below(12))
		b := d.chart(a.New, d.below(12))
		check(t, a)
		checkThen(t, a, b)
		checkThen(t, a, d.chart(d.below(12), d.below(12)))
		for range 2 {
			d.spoil(&b)
			f := faults(b)
			if May(b) != (len(f) == 0) {
				t.Fatalf("11.1: May of %s: %v: %q", dump(b), May(b), f)
			}
			count[len(f) == 0]++
		}
	}
	if count[true] < 500 || count[false] < 500 {
		t.Error("too few of one kind", count)
	}
}

// 11.1, 11.2: rows are put in and taken out, one by one, and all the ways together lead to where each went.
func TestWays(t *testing.T) {
	d := dice(2)
	for range 300 {
		n := d.below(9)
		was := labels(n)
		is := slices.Clone(was)
		whole := Same(n)
		for range d.below(12) {
			at := d.below(len(is) + 1)
			if d.below(2) == 0 || at == len(is) {
				whole = Then(whole, Ins(len(is), at))
				is = slices.Insert(is, at, "new")
			} else {
				whole = Then(whole, Del(len(is), at))
				is = slices.Delete(is, at, at+1)
			}
			told(t, "11.2: Then of many steps", whole, moved(was, is))
		}
		check(t, whole)
	}
}

// many tells a map of 2^20 old places and new ones: of three places each the first one is gone, and there is a new one.
func many() api.Map {
	m := api.Map{To: make([]int, greatest), New: greatest}
	for i := range m.To {
		m.To[i] = i - 1
		if i%3 == 0 {
			m.To[i] = -1
		}
	}
	return m
}

// 11.2, 11.3: maps as great as may be, each call on them.
func TestGreat(t *testing.T) {
	m := many()
	back, then, twice := Back(m), Then(m, Back(m)), Then(m, m)
	if !May(m) || !May(back) || len(back.To) != greatest || back.New != greatest || then.New != greatest || twice.New != greatest {
		t.Fatal("11.2: of a great map")
	}
	for i := range greatest {
		b, stays, on := i+1, i, i-2
		if b%3 == 0 || b == greatest {
			b = -1
		}
		if i%3 == 0 {
			stays = -1
		}
		if i%3 < 2 {
			on = -1
		}
		if back.To[i] != b || then.To[i] != stays || twice.To[i] != on || Image(m, i) != m.To[i] {
			t.Fatalf("11.2: place %d of a great map: Back %d, Then %d, Image %d", i, back.To[i], then.To[i], Image(m, i))
		}
	}
	if !slices.Equal(Back(back).To, m.To) {
		t.Error("11.3: Back of Back of a great map")
	}
	for _, c := range []struct{ lo, hi, a, b int }{{0, greatest - 1, 0, greatest - 3}, {3, 1 << 40, 3, 1 << 40}, {greatest - 1, greatest, greatest, greatest}} {
		if a, b, ok := Span(m, c.lo, c.hi); a != c.a || b != c.b || !ok {
			t.Errorf("11.2: Span of a great map from %d to %d: %d, %d, %v", c.lo, c.hi, a, b, ok)
		}
	}
	none := api.Map{To: slices.Repeat([]int{-1}, greatest), New: 7}
	if a, b, ok := Span(none, 0, greatest-1); a != 0 || b != 0 || ok {
		t.Errorf("11.2: Span of a great map of none: %d, %d, %v", a, b, ok)
	}
	if a, b, ok := Span(none, 0, 1<<40); a != 7 || b != 1<<40-greatest+7 || !ok {
		t.Errorf("11.2: Span of a great map of none, and behind it: %d, %d, %v", a, b, ok)
	}
}

// scribble writes into all that a map's memory has, spare room too, and appends to its list.
func scribble(m api.Map) {
	_ = append(m.To, 777)
	for i := range m.To[:cap(m.To)] {
		m.To[:cap(m.To)][i] = 999
	}
}

// roomy tells a map like m, with spare room behind its list.
func roomy(m api.Map) api.Map {
	return api.Map{To: append(make([]int, 0, len(m.To)+7), m.To...), New: m.New}
}

// apart expects that two maps, each made anew by a function, share nothing: whatever is written into one.
func apart(t *testing.T, what string, make func() (api.Map, api.Map)) {
	t.Helper()
	a, b := make()
	was := dump(a)
	scribble(b)
	if dump(a) != was {
		t.Fatalf("%s: written into one: the other was %s and is %s", what, was, dump(a))
	}
	a, b = make()
	was = dump(b)
	scribble(a)
	if dump(b) != was {
		t.Fatalf("%s: written into one: the other was %s and is %s", what, was, dump(b))
	}
}

// 11.1, 11.2, R3: what is told shares no memory with what was handed in, nor with anything else that was told.
func TestApart(t *testing.T) {
	for n := range 6 {
		apart(t, "11.1: Same, twice", func() (api.Map, api.Map) { return Same(n), Same(n) })
		for at := -1; at < n+2; at++ {
			apart(t, "11.1: Ins, twice", func() (api.Map, api.Map) { return Ins(n, at), Ins(n, at) })
			apart(t, "11.1: Del, twice", func() (api.Map, api.Map) { return Del(n, at), Del(n, at) })
		}
	}
	l := upTo(3)
	for _, m := range l {
		apart(t, "11.2: Back", func() (api.Map, api.Map) {
			a := roomy(m)
			return a, Back(a)
		})
		apart(t, "11.2: Back, twice", func() (api.Map, api.Map) { return Back(m), Back(m) })
		for _, next := range append(l, Same(m.New)) {
			apart(t, "11.2: Then, and its first map", func() (api.Map, api.Map) {
				a := roomy(m)
				return a, Then(a, roomy(next))
			})
			apart(t, "11.2: Then, and its second map", func() (api.Map, api.Map) {
				b := roomy(next)
				return b, Then(roomy(m), b)
			})
			apart(t, "11.2: Then, twice", func() (api.Map, api.Map) { return Then(m, next), Then(m, next) })
		}
	}
}

// R3: the maps that were handed in stay as they were, also their spare room, and also where one is handed in twice.
func TestUntouched(t *testing.T) {
	for _, m := range upTo(4) {
		l := slices.Concat(m.To, []int{11, 12, 13})
		kept := slices.Clone(l)
		m.To = l[:len(m.To)]
		May(m)
		Back(m)
		Then(m, m)
		Then(m, Same(3))
		Then(Same(3), m)
		for i := -1; i < len(l)+2; i++ {
			Image(m, i)
			for hi := -1; hi < len(l)+2; hi++ {
				Span(m, i, hi)
			}
		}
		if !slices.Equal(l, kept) {
			t.Fatalf("R3: what was handed in was %v and is %v", kept, l)
		}
	}
}

// R1: the same calls tell the same, and none of them panics: of maps that may not be, at places far out.
func TestWrong(t *testing.T) {
	numbers := []int{math.MinInt, math.MinInt + 1, -1 << 40, -greatest, -2, -1, 0, 1, 2, 3, greatest - 1, greatest, greatest + 1, 1 << 32, 1 << 40, math.MaxInt - 1, math.MaxInt}
	var l []api.Map
	for _, now := range numbers {
		l = append(l, chart(now), chart(now, -1, 0), chart(now, 3, 3, 3), chart(now, 2, 1, 0), chart(now, now), chart(now, now, -2), chart(now, math.MaxInt, math.MinInt))
	}
	for _, m := range l {
		if May(m) != (len(faults(m)) == 0) {
			t.Errorf("11.1: May of %s: %v", dump(m), May(m))
		}
		if a, b := Back(m), Back(m); a.New != b.New || !slices.Equal(a.To, b.To) {
			t.Errorf("R1: Back of %s", dump(m))
		}
		for _, other := range l {
			told(t, "R1: Then", Then(m, other), Then(m, other))
		}
		for _, i := range numbers {
			if Image(m, i) != Image(m, i) || i < 0 && Image(m, i) != -1 {
				t.Errorf("11.2: Image of %s, %d: %d", dump(m), i, Image(m, i))
			}
			for _, hi := range numbers {
				a, b, ok := Span(m, i, hi)
				if (i < 0 || hi < i) && (a != 0 || b != 0 || ok) {
					t.Errorf("11.2: Span of %s from %d to %d: %d, %d, %v", dump(m), i, hi, a, b, ok)
				}
			}
		}
	}
}

// R1: Back ends whatever New says.
func TestBackWrong(t *testing.T) {
	for _, now := range []int{math.MinInt, -1, greatest + 1, 1 << 32, 1 << 40, 1 << 60, math.MaxInt} {
		told(t, "11.2: Back of what may not be", Back(chart(now, 0, 1)), api.Map{})
		told(t, "11.2: Back of what may not be", Back(chart(now)), api.Map{})
	}
	for _, m := range []api.Map{chart(3, 3), chart(3, -2), chart(3, 1, 1), chart(3, 2, 1), chart(0, 0), chart(0, math.MaxInt)} {
		told(t, "11.2: Back of what may not be", Back(m), api.Map{})
	}
}
