package maps

import (
	"math"
	"slices"
	"testing"

	"chequer/api"
)

const greatest = 1 << 20

// chart tells a map; its new places come first.
func chart(now int, to ...int) api.Map {
	return api.Map{To: to, New: now}
}

// told expects a map to be another one.
func told(t *testing.T, what string, got, want api.Map) {
	t.Helper()
	if dump(got) != dump(want) {
		t.Errorf("%s: %s, not %s", what, dump(got), dump(want))
	}
}

func TestMay(t *testing.T) {
	for _, m := range []api.Map{
		{}, {To: []int{}}, chart(1), chart(3), chart(greatest),
		chart(0, -1), chart(0, -1, -1), chart(1, -1), chart(1, 0), chart(2, 0), chart(2, 1), chart(greatest, greatest-1), chart(greatest, 0, greatest-1),
		chart(3, 0, 1, 2), chart(3, 0, 2), chart(3, 1, 2), chart(3, 0, 1), chart(3, -1, 0, 1), chart(3, 0, -1, 1), chart(3, 0, -1, 2), chart(3, 0, 1, -1),
		chart(5, -1, 4, -1), chart(5, -1, -1, 0, -1, -1, 3, -1), chart(9, 1, -1, 4, -1, -1, 8),
	} {
		if !May(m) {
			t.Errorf("11.1: May of %s: false", dump(m))
		}
	}
	for _, m := range []api.Map{
		chart(-1), chart(-2), chart(math.MinInt), chart(greatest + 1), chart(greatest + 2), chart(1 << 21), chart(1 << 32), chart(1<<32 + 1), chart(math.MaxInt),
		chart(-1, -1), chart(greatest+1, -1), chart(greatest+1, 0), chart(greatest, greatest), chart(greatest+1, greatest),
		chart(0, 0), chart(0, 1), chart(0, -2), chart(3, -2), chart(3, -3), chart(3, math.MinInt), chart(3, math.MaxInt), chart(3, 3), chart(3, 4), chart(3, 1<<32),
		chart(3, 0, -2), chart(3, -2, 0), chart(3, 0, -2, 1), chart(3, -2, -1), chart(3, -1, -2), chart(3, -3, -2),
		chart(3, 0, 3), chart(3, 3, 0), chart(3, 0, 1, 3), chart(3, -1, 3), chart(3, 3, -1), chart(3, 0, 1, 2, 3),
		chart(3, 0, 0), chart(3, 1, 1), chart(3, 2, 2), chart(3, 0, 1, 1), chart(3, 0, 0, 1), chart(5, 3, -1, 3), chart(5, 0, -1, -1, 0),
		chart(3, 1, 0), chart(3, 2, 0), chart(3, 0, 2, 1), chart(3, 1, 0, 2), chart(3, 2, -1, 0), chart(3, 0, 2, -1, 1), chart(9, 0, 3, 6, 5), chart(9, 8, -1, -1, 7),
	} {
		if May(m) {
			t.Errorf("11.1: May of %s: true", dump(m))
		}
	}
}

// 11.1: To of 2^20 places, and of one more; New of as many.
func TestMayMost(t *testing.T) {
	allGone := slices.Repeat([]int{-1}, greatest+1)
	kept := make([]int, greatest+1)
	for i := range kept {
		kept[i] = i
	}
	for i, c := range []struct {
		m    api.Map
		want bool
	}{
		{api.Map{To: allGone[:greatest]}, true},
		{api.Map{To: allGone[:greatest], New: greatest}, true},
		{api.Map{To: allGone[:greatest], New: greatest + 1}, false},
		{api.Map{To: allGone[:greatest], New: -1}, false},
		{api.Map{To: allGone}, false},
		{api.Map{To: allGone, New: greatest}, false},
		{api.Map{To: kept[:greatest], New: greatest}, true},
		{api.Map{To: kept[:greatest], New: greatest - 1}, false},
		{api.Map{To: kept[:greatest], New: greatest + 1}, false},
		{api.Map{To: kept[:greatest-1], New: greatest - 1}, true},
		{api.Map{To: kept[1:greatest], New: greatest}, true},
		{api.Map{To: kept[1:], New: greatest}, false},
		{api.Map{To: kept, New: greatest + 1}, false},
	} {
		if May(c.m) != c.want {
			t.Errorf("11.1: May of great map %d: %v", i, !c.want)
		}
	}
	m := api.Map{To: slices.Clone(kept[:greatest]), New: greatest}
	for _, i := range []int{0, 1, greatest / 2, greatest - 2, greatest - 1} {
		for _, now := range []int{-2, i + 1, i - 1, greatest} {
			m.To[i] = now
			may := now == -1 || i == greatest-1 && now == i
			if May(m) != may {
				t.Errorf("11.1: May of a great map whose place %d goes to %d: %v", i, now, !may)
			}
		}
		m.To[i] = -1
		if !May(m) {
			t.Errorf("11.1: May of a great map whose place %d is gone: false", i)
		}
		m.To[i] = i
	}
}

func TestSame(t *testing.T) {
	told(t, "11.1: Same of 0", Same(0), chart(0))
	told(t, "11.1: Same of 1", Same(1), chart(1, 0))
	told(t, "11.1: Same of 3", Same(3), chart(3, 0, 1, 2))
	for _, n := range []int{-1, -2, -greatest, math.MinInt} {
		told(t, "11.1: Same of less than 0", Same(n), chart(0))
	}
}

func TestIns(t *testing.T) {
	for _, c := range []struct {
		n, at int
		want  api.Map
	}{
		{2, 1, chart(3, 0, 2)}, {2, 0, chart(3, 1, 2)}, {2, 2, chart(3, 0, 1)},
		{2, -1, chart(2, 0, 1)}, {2, 3, chart(2, 0, 1)}, {2, -2, chart(2, 0, 1)}, {2, math.MinInt, chart(2, 0, 1)}, {2, math.MaxInt, chart(2, 0, 1)}, {2, 1 << 32, chart(2, 0, 1)},
		{0, 0, chart(1)}, {0, 1, chart(0)}, {0, -1, chart(0)},
		{1, 0, chart(2, 1)}, {1, 1, chart(2, 0)}, {1, 2, chart(1, 0)}, {1, -1, chart(1, 0)},
		{-1, 0, chart(1)}, {-3, 0, chart(1)}, {math.MinInt, 0, chart(1)}, {-1, -1, chart(0)}, {-3, -3, chart(0)}, {-3, -2, chart(0)}, {-3, 1, chart(0)}, {math.MinInt, math.MinInt, chart(0)},
		{5, 3, chart(6, 0, 1, 2, 4, 5)},
	} {
		told(t, "11.1: Ins", Ins(c.n, c.at), c.want)
	}
}

func TestDel(t *testing.T) {
	for _, c := range []struct {
		n, at int
		want  api.Map
	}{
		{3, 1, chart(2, 0, -1, 1)}, {3, 0, chart(2, -1, 0, 1)}, {3, 2, chart(2, 0, 1, -1)},
		{3, -1, chart(3, 0, 1, 2)}, {3, 3, chart(3, 0, 1, 2)}, {3, 4, chart(3, 0, 1, 2)}, {3, -3, chart(3, 0, 1, 2)}, {3, math.MinInt, chart(3, 0, 1, 2)}, {3, math.MaxInt, chart(3, 0, 1, 2)}, {3, 1 << 32, chart(3, 0, 1, 2)},
		{0, 0, chart(0)}, {0, -1, chart(0)}, {0, 1, chart(0)},
		{1, 0, chart(0, -1)}, {1, 1, chart(1, 0)}, {1, -1, chart(1, 0)},
		{-1, 0, chart(0)}, {-1, -1, chart(0)}, {-3, -2, chart(0)}, {-3, -3, chart(0)}, {math.MinInt, math.MinInt, chart(0)}, {-1, -2, chart(0)},
		{5, 3, chart(4, 0, 1, 2, -1, 3)},
	} {
		told(t, "11.1: Del", Del(c.n, c.at), c.want)
	}
}

// line expects a map of 2^20 old places: all go where they stand, from at on further by some; gone: at itself is gone.
func line(t *testing.T, what string, m api.Map, at, by int, gone bool, now int) {
	t.Helper()
	if len(m.To) != greatest || m.New != now {
		t.Fatalf("%s: %d places, New %d", what, len(m.To), m.New)
	}
	for i, got := range m.To {
		want := i
		if i >= at {
			want += by
		}
		if i == at && gone {
			want = -1
		}
		if got != want {
			t.Fatalf("%s: %d goes to %d, not to %d", what, i, got, want)
		}
	}
}

// 11.1: n of 2^20, and all above count as that: also beside at.
func TestMost(t *testing.T) {
	for _, n := range []int{greatest, greatest + 1, greatest + 9, 1 << 32, 1<<32 + 1, math.MaxInt} {
		line(t, "11.1: Same of many", Same(n), 0, 0, false, greatest)
		for _, at := range []int{0, 1, greatest / 2, greatest - 1, greatest} {
			line(t, "11.1: Ins of many", Ins(n, at), at, 1, false, greatest+1)
		}
		for _, at := range []int{0, 1, greatest / 2, greatest - 1} {
			line(t, "11.1: Del of many", Del(n, at), at, -1, true, greatest-1)
		}
		for _, at := range []int{-1, greatest + 1, greatest + 2, n - 1, n, math.MaxInt, math.MinInt} {
			if at == greatest-1 || at == greatest {
				continue
			}
			line(t, "11.1: Ins of many, at none", Ins(n, at), 0, 0, false, greatest)
			line(t, "11.1: Del of many, at none", Del(n, at), 0, 0, false, greatest)
		}
		line(t, "11.1: Del of many, behind all", Del(n, greatest), 0, 0, false, greatest)
	}
}

// ways is the map of most tests: 0 goes to 1, 2 to 2, 1 and 3 are gone; 0, 3 and 4 are new.
func ways() api.Map {
	return chart(5, 1, -1, 2, -1)
}

func TestImage(t *testing.T) {
	for _, c := range []struct {
		i, want int
	}{{0, 1}, {1, -1}, {2, 2}, {3, -1}, {4, 5}, {5, 6}, {9, 10}, {1 << 20, 1<<20 + 1}, {1 << 32, 1<<32 + 1}, {1 << 40, 1<<40 + 1}, {-1, -1}, {-2, -1}, {-4, -1}, {-5, -1}, {-1 << 40, -1}, {math.MinInt, -1}} {
		if got := Image(ways(), c.i); got != c.want {
			t.Errorf("11.2: Image of %d: %d, not %d", c.i, got, c.want)
		}
	}
	for _, c := range []struct {
		m       api.Map
		i, want int
	}{
		{chart(0), 0, 0}, {chart(0), 7, 7}, {chart(0), -1, -1}, {chart(0), 1 << 40, 1 << 40},
		{chart(3), 0, 3}, {chart(3), 1 << 40, 1<<40 + 3}, {chart(greatest), 1 << 40, 1<<40 + greatest},
		{chart(0, -1), 0, -1}, {chart(0, -1), 1, 0}, {chart(0, -1, -1), 2, 0}, {chart(0, -1, -1), 1 << 40, 1<<40 - 2},
		{chart(1, 0), 0, 0}, {chart(1, 0), 1, 1}, {chart(1, -1, 0), 1, 0}, {chart(1, -1, 0), 2, 1},
	} {
		if got := Image(c.m, c.i); got != c.want {
			t.Errorf("11.2: Image of %s, %d: %d, not %d", dump(c.m), c.i, got, c.want)
		}
	}
}

func TestSpan(t *testing.T) {
	const far = 1 << 40
	for _, c := range []struct {
		m            api.Map
		lo, hi, a, b int
	}{
		{ways(), 0, 0, 1, 1}, {ways(), 2, 2, 2, 2}, {ways(), 0, 2, 1, 2}, {ways(), 0, 1, 1, 1}, {ways(), 1, 2, 2, 2}, {ways(), 2, 3, 2, 2}, {ways(), 1, 3, 2, 2}, {ways(), 0, 3, 1, 2},
		{ways(), 4, 4, 5, 5}, {ways(), 3, 4, 5, 5}, {ways(), 3, 5, 5, 6}, {ways(), 1, 9, 2, 10}, {ways(), 0, far, 1, far + 1}, {ways(), 3, far, 5, far + 1}, {ways(), far, far, far + 1, far + 1}, {ways(), far - 1, far, far, far + 1},
		{chart(0), 0, 0, 0, 0}, {chart(0), 0, far, 0, far}, {chart(2), 0, 3, 2, 5}, {chart(0, -1, -1), 0, 2, 0, 0}, {chart(0, -1, -1), 1, far, 0, far - 2},
		{chart(3, 0, 1, 2), 0, 2, 0, 2}, {chart(3, 0, 1, 2), 1, 1, 1, 1}, {chart(9, 2, 5, 8), 0, 1, 2, 5}, {chart(1, -1, -1, 0, -1, -1), 0, 4, 0, 0},
	} {
		a, b, ok := Span(c.m, c.lo, c.hi)
		if a != c.a || b != c.b || !ok {
			t.Errorf("11.2: Span of %s from %d to %d: %d, %d, %v, not %d, %d", dump(c.m), c.lo, c.hi, a, b, ok, c.a, c.b)
		}
	}
}

// 11.2: spans without a place that has an image, and ones that are none, tell nothing but false.
func TestSpanNone(t *testing.T) {
	const far = 1 << 40
	for _, c := range []struct {
		m      api.Map
		lo, hi int
	}{
		{ways(), 1, 1}, {ways(), 3, 3}, {chart(0, -1), 0, 0}, {chart(0, -1, -1), 0, 1}, {chart(4, -1, -1), 0, 1}, {chart(4, 2, -1, -1, -1, 3), 1, 3}, {chart(4, 2, -1, -1, -1, 3), 2, 3},
		{ways(), 1, 0}, {ways(), 2, 0}, {ways(), 3, 2}, {ways(), 4, 3}, {ways(), 5, 4}, {ways(), 9, 0}, {ways(), far, far - 1}, {ways(), far, 0}, {ways(), 0, -1}, {ways(), 2, -1}, {ways(), 0, math.MinInt}, {ways(), math.MaxInt, 0}, {ways(), math.MaxInt, math.MinInt}, {chart(0), 1, 0}, {chart(0), 0, -1},
		{ways(), -1, 2}, {ways(), -1, 0}, {ways(), -1, -1}, {ways(), -2, -1}, {ways(), -4, 3}, {ways(), -1, far}, {ways(), -1, -2}, {ways(), math.MinInt, 2}, {ways(), math.MinInt, math.MinInt}, {chart(0), -1, 0}, {chart(0), -1, -1},
	} {
		if a, b, ok := Span(c.m, c.lo, c.hi); a != 0 || b != 0 || ok {
			t.Errorf("11.2: Span of %s from %d to %d: %d, %d, %v", dump(c.m), c.lo, c.hi, a, b, ok)
		}
	}
}

func TestThen(t *testing.T) {
	for _, c := range []struct{ a, b, want api.Map }{
		{chart(0), chart(0), chart(0)},
		{chart(0), chart(5), chart(5)},
		{ways(), chart(4, 0, 1, -1, 2, 3), chart(4, 1, -1, -1, -1)},
		{ways(), Same(5), ways()},
		{Same(4), ways(), ways()},
		{Ins(3, 1), Del(4, 1), Same(3)},
		{Ins(3, 1), Del(4, 2), chart(3, 0, -1, 2)},
		{Del(3, 1), Ins(2, 1), chart(3, 0, -1, 2)},
		{Del(3, 0), Del(2, 0), chart(1, -1, -1, 0)},
		{Ins(2, 2), Ins(3, 0), chart(4, 1, 2)},
		{chart(0, -1, -1), chart(3), chart(3, -1, -1)},
		{chart(2, 0, 1), chart(0, -1, -1), chart(0, -1, -1)},
	} {
		told(t, "11.2: Then", Then(c.a, c.b), c.want)
		checkThen(t, c.a, c.b)
	}
}

// 11.2: of maps where one has not as many old places as the other has new ones, it is told likewise.
func TestThenUnlike(t *testing.T) {
	for _, c := range []struct{ a, b, want api.Map }{
		{chart(3, 0, 2), chart(2, 1), chart(2, 1, 3)},
		{chart(3, 0, 1, 2), chart(0), chart(0, 0, 1, 2)},
		{chart(3, 0, 1, 2), chart(4), chart(4, 4, 5, 6)},
		{chart(3, -1, 2), chart(0, -1), chart(0, -1, 1)},
		{chart(1, 0), chart(4, 0, 1, 3), chart(4, 0)},
		{chart(0), ways(), chart(5)},
		{ways(), chart(0), chart(0, 1, -1, 2, -1)},
		{ways(), chart(7, -1, 3), chart(7, 3, -1, 7, -1)},
		{chart(2, 1), chart(3, 0, -1, 1), chart(3, -1)},
		{chart(greatest, greatest-1), chart(greatest), chart(greatest, 2*greatest-1)},
	} {
		told(t, "11.2: Then", Then(c.a, c.b), c.want)
	}
}

func TestBack(t *testing.T) {
	for _, c := range []struct{ m, want api.Map }{
		{chart(0), chart(0)},
		{chart(2), chart(0, -1, -1)},
		{chart(0, -1, -1), chart(2)},
		{chart(1, 0), chart(1, 0)},
		{chart(1, -1), chart(1, -1)},
		{ways(), chart(4, -1, 0, 2, -1, -1)},
		{Same(3), Same(3)},
		{Ins(3, 1), Del(4, 1)},
		{Ins(3, 0), Del(4, 0)},
		{Ins(3, 3), Del(4, 3)},
		{Del(3, 1), Ins(2, 1)},
		{chart(3, -1, -1, 0, 2, -1), chart(5, 2, -1, 3)},
	} {
		told(t, "11.2: Back", Back(c.m), c.want)
		told(t, "11.3: Back of what is told", Back(c.want), c.m)
		check(t, c.m)
	}
}
