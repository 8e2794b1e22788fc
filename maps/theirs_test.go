package maps

import (
	"fmt"
	"maps"
	"slices"
	"testing"

	"chequer/api"
)

// What the document says of maps, in another way: a map as a list of all that is wrong with it, as labels that stand in
// order ahead of a change and behind it, and as pairs of an old place and the new one that it went to.

// dump tells all that is in a map as one text. A nil list and an empty one are one.
func dump(m api.Map) string {
	return fmt.Sprint(m)
}

// faults tells what keeps m from being a map that may be.
func faults(m api.Map) []string {
	var l []string
	if m.New < 0 {
		l = append(l, "New below 0")
	}
	if m.New > 1048576 {
		l = append(l, "too many new ones")
	}
	if len(m.To) > 1048576 {
		l = append(l, "too many old ones")
	}
	kept := slices.DeleteFunc(slices.Clone(m.To), func(now int) bool { return now == -1 })
	for _, now := range kept {
		if now < 0 {
			l = append(l, "a place below 0")
		}
		if now >= m.New {
			l = append(l, "a place behind the new ones")
		}
	}
	if !slices.IsSorted(kept) {
		l = append(l, "places that fall")
	}
	if len(slices.Compact(slices.Clone(kept))) < len(kept) {
		l = append(l, "places that are alike")
	}
	return l
}

// labels tells n texts, none like another.
func labels(n int) []string {
	var l []string
	for i := range n {
		l = append(l, fmt.Sprint("old ", i))
	}
	return l
}

// moved tells the map that leads from labels to the same ones in another list.
func moved(was, is []string) api.Map {
	m := api.Map{New: len(is)}
	for _, label := range was {
		m.To = append(m.To, slices.Index(is, label))
	}
	return m
}

func theirSame(n int) api.Map {
	return moved(labels(n), labels(n))
}

func theirIns(n, at int) api.Map {
	if at < 0 || at > max(n, 0) {
		return theirSame(n)
	}
	return moved(labels(n), slices.Insert(labels(n), at, "new"))
}

func theirDel(n, at int) api.Map {
	if at < 0 || at >= n {
		return theirSame(n)
	}
	return moved(labels(n), slices.Delete(labels(n), at, at+1))
}

// pairs tells the new place of each place that has one, up to so many behind the old ones.
func pairs(m api.Map, behind int) map[int]int {
	told := map[int]int{}
	for i, now := range m.To {
		if now != -1 {
			told[i] = now
		}
	}
	for k := range behind {
		told[len(m.To)+k] = m.New + k
	}
	return told
}

func theirImage(m api.Map, i int) int {
	if now, is := pairs(m, max(i+1, 0))[i]; is {
		return now
	}
	return -1
}

func theirSpan(m api.Map, lo, hi int) (a, b int, ok bool) {
	if lo < 0 {
		return 0, 0, false
	}
	all := pairs(m, max(hi+1, 0))
	for _, i := range slices.Sorted(maps.Keys(all)) {
		if i < lo || i > hi {
			delete(all, i)
		}
	}
	l := slices.Sorted(maps.Values(all))
	if len(l) == 0 {
		return 0, 0, false
	}
	return l[0], l[len(l)-1], true
}

// theirThen follows each pair of a by those of b.
func theirThen(a, b api.Map) api.Map {
	on := pairs(b, a.New)
	told := api.Map{To: slices.Repeat([]int{-1}, len(a.To)), New: b.New}
	for i, now := range pairs(a, 0) {
		if next, is := on[now]; is {
			told.To[i] = next
		}
	}
	return told
}

// theirBack turns each pair round.
func theirBack(m api.Map) api.Map {
	told := api.Map{To: slices.Repeat([]int{-1}, m.New), New: len(m.To)}
	for i, now := range pairs(m, 0) {
		told.To[now] = i
	}
	return told
}

// subsets tells all rising lists of size numbers from 0 to n - 1.
func subsets(n, size int) [][]int {
	if size == 0 {
		return [][]int{nil}
	}
	if n < size {
		return nil
	}
	l := subsets(n-1, size)
	for _, s := range subsets(n-1, size-1) {
		l = append(l, append(slices.Clone(s), n-1))
	}
	return l
}

// allMaps tells all that may be, of that many old and new places: some of the old ones to as many of the new ones.
func allMaps(old, now int) []api.Map {
	var l []api.Map
	for size := range old + 1 {
		for _, from := range subsets(old, size) {
			for _, to := range subsets(now, size) {
				m := api.Map{To: slices.Repeat([]int{-1}, old), New: now}
				for k := range size {
					m.To[from[k]] = to[k]
				}
				l = append(l, m)
			}
		}
	}
	return l
}

// upTo tells all maps that may be, of at most n old places and n new ones.
func upTo(n int) []api.Map {
	var l []api.Map
	for old := range n + 1 {
		for now := range n + 1 {
			l = append(l, allMaps(old, now)...)
		}
	}
	return l
}

// check holds all that the calls tell of a map that may be against what the document says.
func check(t *testing.T, m api.Map) {
	t.Helper()
	was := dump(m)
	if !May(m) {
		t.Fatalf("11.1: May of %s: false", was)
	}
	n := max(len(m.To), m.New)
	for i := -3; i < n+4; i++ {
		if got, want := Image(m, i), theirImage(m, i); got != want {
			t.Fatalf("11.2: Image of %s, %d: %d, not %d", was, i, got, want)
		}
		for hi := -3; hi < n+4; hi++ {
			checkSpan(t, m, i, hi)
		}
	}
	back := Back(m)
	if want := theirBack(m); dump(back) != dump(want) || !May(back) {
		t.Fatalf("11.2: Back of %s: %s, not %s", was, dump(back), dump(want))
	}
	if again := Back(back); dump(again) != was {
		t.Fatalf("11.3: Back of Back of %s: %s", was, dump(again))
	}
	if dump(m) != was {
		t.Fatalf("R3: what was handed in is changed: from %s to %s", was, dump(m))
	}
}

func checkSpan(t *testing.T, m api.Map, lo, hi int) {
	t.Helper()
	a, b, ok := Span(m, lo, hi)
	wantA, wantB, want := theirSpan(m, lo, hi)
	if a != wantA || b != wantB || ok != want {
		t.Fatalf("11.2: Span of %s from %d to %d: %d, %d, %v, not %d, %d, %v", dump(m), lo, hi, a, b, ok, wantA, wantB, want)
	}
}

// checkThen holds what Then tells of two maps that may be against what the document says: whether or not the second one
// has as many old places as the first one has new ones.
func checkThen(t *testing.T, a, b api.Map) {
	t.Helper()
	wasA, wasB := dump(a), dump(b)
	got := Then(a, b)
	if want := theirThen(a, b); dump(got) != dump(want) {
		t.Fatalf("11.2: Then of %s and %s: %s, not %s", wasA, wasB, dump(got), dump(want))
	}
	on := len(b.To) == a.New
	if on && !May(got) {
		t.Fatalf("11.2: Then of %s and %s: %s may not be", wasA, wasB, dump(got))
	}
	behind := 0
	if on {
		behind = 3
	}
	for i := -2; i < len(a.To)+behind; i++ {
		if Image(got, i) != Image(b, Image(a, i)) {
			t.Fatalf("11.3: Then of %s and %s: %d goes to %d, not on to %d", wasA, wasB, i, Image(got, i), Image(b, Image(a, i)))
		}
	}
	if dump(a) != wasA || dump(b) != wasB {
		t.Fatalf("R3: what was handed in is changed: from %s and %s to %s and %s", wasA, wasB, dump(a), dump(b))
	}
}

// dice tells numbers that look like any, the same ones in every run.
type dice uint64

func (d *dice) below(n int) int {
	*d = *d*6364136223846793005 + 1442695040888963407
	return int(uint64(*d)>>33) % n
}

// some tells size numbers from 0 to n - 1 that rise.
func (d *dice) some(n, size int) []int {
	l := make([]int, 0, n)
	for i := range n {
		l = append(l, i)
	}
	for len(l) > size {
		i := d.below(len(l))
		l = slices.Delete(l, i, i+1)
	}
	return l
}

// chart tells a map that may be, of that many old places and new ones.
func (d *dice) chart(old, now int) api.Map {
	m := api.Map{To: slices.Repeat([]int{-1}, old), New: now}
	size := d.below(min(old, now) + 1)
	from, to := d.some(old, size), d.some(now, size)
	for k := range size {
		m.To[from[k]] = to[k]
	}
	return m
}

// spoil changes something in m, so that most often it may not be any more.
func (d *dice) spoil(m *api.Map) {
	if len(m.To) == 0 {
		m.New = d.below(3) - 2
		return
	}
	i, j := d.below(len(m.To)), d.below(len(m.To))
	switch d.below(6) {
	case 0:
		m.To[i], m.To[j] = m.To[j], m.To[i]
	case 1:
		m.To[i] = m.To[j]
	case 2:
		m.To[i] = -2 - d.below(3)
	case 3:
		m.To[i] = m.New + d.below(3)
	case 4:
		m.New = d.below(max(m.New, 0)+4) - 2
	case 5:
		m.To[i] = d.below(max(m.New, 0) + 2)
	}
}
