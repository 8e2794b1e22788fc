package move

import (
	"math"
	"slices"
	"strconv"
	"strings"
	"testing"

	"chequer/api"
	"chequer/cell"
	"chequer/maps"
	"chequer/show"
)

// 12.1, 12.2: all small maps, of rows, of columns, of both; all references and spans of their places, and behind them.
func TestAllSmall(t *testing.T) {
	for _, m := range upTo(4) {
		ways := [][]api.Shift{rows(m), cols(m), {{Sheet: "S", Rows: m, Cols: m}}}
		for lo := range 7 {
			for _, shifts := range ways {
				check(t, []api.Node{ref(at(lo, lo))}, "S", shifts)
			}
			for hi := lo; hi < 7; hi++ {
				for _, shifts := range ways {
					check(t, []api.Node{span(at(lo, lo), at(hi, hi))}, "S", shifts)
					check(t, []api.Node{span(at(lo, 2), at(hi, 3))}, "S", shifts)
				}
			}
		}
	}
}

// 12.1: all small maps two by two, as those of rows and of columns.
func TestAllPairs(t *testing.T) {
	l := upTo(2)
	for _, m := range l {
		for _, n := range l {
			shifts := []api.Shift{{Sheet: "S", Rows: m, Cols: n}}
			for from := range 9 {
				for to := range 9 {
					first, last := at(from/3, from%3), at(to/3, to%3)
					check(t, []api.Node{ref(first)}, "S", shifts)
					if last.Row >= first.Row && last.Col >= first.Col {
						check(t, []api.Node{span(first, last)}, "S", shifts)
					}
				}
			}
		}
	}
}

// 12.1: all lists of up to three shifts of three sheets: the first one of a sheet counts.
func TestAllShifts(t *testing.T) {
	some := []api.Shift{{Sheet: "S", Rows: maps.Ins(4, 0)}, {Sheet: "S", Cols: maps.Ins(4, 0)}, {Sheet: "S", Gone: true}, {Sheet: "S"}, {Sheet: "T", Rows: maps.Del(4, 1)}, {Sheet: "T", Gone: true}, {Sheet: "", Rows: maps.Ins(9, 3)}}
	l := join(call("F"), []api.Node{ref(at(1, 1))}, []api.Node{ref(api.Ref{Sheet: "S", Row: 1, Col: 1})}, []api.Node{ref(api.Ref{Sheet: "T", Row: 2})}, []api.Node{span(at(1, 1), at(5, 5))}, []api.Node{span(api.Ref{Sheet: "T"}, at(5, 5))})
	for _, own := range []string{"S", "T", "U", ""} {
		check(t, l, own, nil)
		for _, a := range some {
			check(t, l, own, []api.Shift{a})
			for _, b := range some {
				check(t, l, own, []api.Shift{a, b})
				for _, c := range some {
					check(t, l, own, []api.Shift{a, b, c})
				}
			}
		}
	}
}

// 12.1, 12.2: trees of all kinds, by any shifts.
func TestAny(t *testing.T) {
	d := dice(1)
	dies, stay, move := 0, 0, 0
	for range 12000 {
		l, own, shifts := d.tree(d.below(5)), d.sheet(), d.shifts(d.below(6))
		check(t, l, own, shifts)
		for i, n := range Nodes(l, own, shifts) {
			switch was := l[i]; {
			case was.Kind != api.NRef && was.Kind != api.NRange:
			case n.Kind == api.NDead:
				dies++
			case n.Ref == was.Ref && n.To == was.To:
				stay++
			default:
				move++
			}
		}
	}
	if dies < 1000 || stay < 5000 || move < 1000 {
		t.Error("too few of one kind", dies, stay, move)
	}
}

// 12.2: formulas of nearly as many bytes as may be, that grow and shrink.
func TestAnyLong(t *testing.T) {
	d := dice(6)
	long, short := 0, 0
	for range 4000 {
		var parts []string
		for size := 0; size < 270+d.below(35); size += len(parts[len(parts)-1]) + 1 {
			parts = append(parts, d.anyOf("A1", "A2", "A9", "A10", "$Z$9", "AA9", "S!A9", "T!A9", "A9:Z99", "S!$A$9:$A$10", "A99", "T!A100", `"A9"`))
		}
		s := "=" + strings.Join(parts, "+")
		shifts := []api.Shift{{Sheet: "S", Rows: d.chart(d.below(5)), Cols: d.chart(d.below(3))}, {Sheet: "T", Rows: d.chart(3), Gone: d.below(2) == 0}}
		checkText(t, s, "S", shifts)
		if cell.May(s) && Text(s, "S", shifts) == "=#REF!" {
			long++
		} else if cell.May(s) {
			short++
		}
	}
	if long < 500 || short < 500 {
		t.Error("too few of one kind", long, short)
	}
}

// 12.2: texts of any kind, and formulas changed by one byte.
func TestAnyText(t *testing.T) {
	d := dice(2)
	good, bad := 0, 0
	for range 12000 {
		s, own, shifts := "="+show.Print(d.tree(d.below(4))), d.sheet(), d.shifts(d.below(5))
		at := d.below(len(s))
		for _, changed := range []string{s, s[1:], "'" + s, s[:at] + d.anyOf(" ", "(", ")", "'", "=", "0", "1", "A", "$", "!", "\"", ":", "-", "\x00") + s[at:], s[:at] + s[at+1:]} {
			checkText(t, changed, own, shifts)
			if _, ok := cell.Formula(changed); ok {
				good++
			} else {
				bad++
			}
		}
	}
	if good < 5000 || bad < 5000 {
		t.Error("too few of one kind", good, bad)
	}
}

// then tells one shift for each sheet of two lists: by the first list's shift, and on by the second one's. Where a sheet
// has one in one of the two alone, that is it.
func then(first, next []api.Shift) []api.Shift {
	var l []api.Shift
	for _, a := range first {
		b, ok := theirShift(a.Sheet, a.Sheet, next)
		if ok {
			a.Rows, a.Cols, a.Gone = maps.Then(a.Rows, b.Rows), maps.Then(a.Cols, b.Cols), a.Gone || b.Gone
		}
		l = append(l, a)
	}
	return append(l, next...)
}

// lost tells whether something was gone between: a reference beyond the last places, or a corner that a span had then.
func lost(was, between api.Node, own string, next []api.Shift) bool {
	if between.Kind == api.NDead {
		return was.Kind != api.NDead
	}
	s, ok := theirShift(between.Ref.Sheet, own, next)
	if !ok || s.Gone || between.Kind != api.NRange {
		return false
	}
	for _, i := range []int{between.Ref.Row, between.To.Row} {
		if maps.Image(s.Rows, i) < 0 {
			return true
		}
	}
	return maps.Image(s.Cols, between.Ref.Col) < 0 || maps.Image(s.Cols, between.To.Col) < 0
}

// twice expects of nodes that are moved by one, then by another, that they are moved by both, but where something was
// gone between; it tells of how many references that was not so.
func twice(t *testing.T, l []api.Node, own string, first, next []api.Shift) int {
	t.Helper()
	between := Nodes(l, own, first)
	got, want := Nodes(between, own, next), Nodes(l, own, then(first, next))
	n, whole := 0, true
	for i := range l {
		if lost(l[i], between[i], own, next) {
			whole = false
			continue
		}
		if !same(got[i:i+1], want[i:i+1]) {
			t.Fatalf("12.3: %s on %q by %s, then by %s: %s, not %s", dump(l[i]), own, dump(first), dump(next), dump(got[i]), dump(want[i]))
		}
		if l[i].Kind == api.NRef || l[i].Kind == api.NRange {
			n++
		}
	}
	s := "=" + show.Print(l)
	if is := "=" + show.Print(between); whole && cell.May(s) && len(is) <= api.MaxCell {
		if got, want := Text(Text(s, own, first), own, next), Text(s, own, then(first, next)); got != want {
			t.Fatalf("12.3: %q on %q by %s, then by %s: %q, not %q", s, own, dump(first), dump(next), got, want)
		}
	}
	return n
}

// 12.3: all small maps, one behind another, of rows and of columns.
func TestTwiceSmall(t *testing.T) {
	l := upTo(3)
	for _, a := range l {
		for _, b := range l {
			if len(b.To) != a.New {
				continue
			}
			for lo := range 5 {
				for hi := lo; hi < 5; hi++ {
					nodes := join(call("F"), []api.Node{ref(at(lo, hi))}, []api.Node{span(at(lo, lo), at(hi, hi))})
					twice(t, nodes, "S", rows(a), rows(b))
					twice(t, nodes, "S", cols(a), cols(b))
				}
			}
		}
	}
}

// 12.3: trees of any kind, by any shifts, of which the second ones have as many old places as the first ones new ones.
func TestTwiceAny(t *testing.T) {
	d := dice(3)
	n := 0
	for range 6000 {
		first := d.shifts(d.below(5))
		for i := range first {
			first[i].Rows, first[i].Cols = d.chart(d.below(9)), d.chart(d.below(9))
		}
		var next []api.Shift
		for _, sheet := range []string{"S", "T", "A1", ""} {
			s := d.shift()
			s.Sheet = sheet
			if a, ok := theirShift(sheet, sheet, first); ok {
				s.Rows, s.Cols = d.chart(a.Rows.New), d.chart(a.Cols.New)
			}
			if d.below(4) > 0 {
				next = append(next, s)
			}
		}
		n += twice(t, d.tree(d.below(5)), d.sheet(), first, next)
	}
	if n < 5000 {
		t.Error("too few that are not lost", n)
	}
}

// 12.3: by hand: what is moved by both, and what was gone between.
func TestTwiceByHand(t *testing.T) {
	for _, c := range []struct {
		s           string
		first, next api.Map
		want, both  string
	}{
		{"=A2", maps.Ins(4, 0), maps.Del(5, 0), "=A2", "=A2"},
		{"=A2", maps.Ins(4, 0), maps.Ins(5, 0), "=A4", "=A4"},
		{"=A2", maps.Ins(4, 0), maps.Del(5, 2), "=#REF!", "=#REF!"},
		{"=A2", maps.Del(4, 1), maps.Ins(3, 1), "=#REF!", "=#REF!"},
		{"=A9", maps.Ins(4, 0), maps.Del(5, 3), "=A9", "=A9"},
		{"=A1:A3", maps.Ins(4, 1), maps.Del(5, 2), "=A1:A3", "=A1:A3"},
		{"=A1:A3", maps.Del(4, 0), maps.Ins(3, 0), "=A2:A3", "=A2:A3"},
		// Beyond the last row between, a corner gone between.
		{"=A999", maps.Ins(4, 0), maps.Del(5, 0), "=#REF!", "=A999"},
		{"=A1:A999", maps.Ins(4, 0), maps.Del(5, 0), "=#REF!", "=A1:A999"},
		{"=A1:A3", maps.Ins(4, 1), maps.Del(5, 0), "=A1:A3", "=A2:A3"},
	} {
		if got := Text(Text(c.s, "S", rows(c.first)), "S", rows(c.next)); got != c.want {
			t.Errorf("12.3: %q by one, then by another: %q, not %q", c.s, got, c.want)
		}
		moved(t, c.s, c.both, rows(maps.Then(c.first, c.next)))
	}
	// A formula too long between.
	s := "=A9&" + pad(api.MaxCell-4)
	moved(t, Text(s, "S", rows(maps.Ins(4, 0))), "=#REF!", rows(maps.Del(5, 0)))
	moved(t, s, s, rows(maps.Then(maps.Ins(4, 0), maps.Del(5, 0))))
}

// 12.1: a great tree, by great maps, of many sheets.
func TestGreat(t *testing.T) {
	const n = 1 << 17
	gone := make([]int, 1<<20)
	for i := range gone {
		gone[i] = i - 1
	}
	m := api.Map{To: gone, New: 1 << 20}
	var shifts []api.Shift
	for i := range n {
		shifts = append(shifts, api.Shift{Sheet: "X" + strconv.Itoa(i), Rows: m, Gone: i%7 == 3})
	}
	var l []api.Node
	top := call("F")
	for i := range n {
		from := api.Ref{Sheet: "X" + strconv.Itoa((i*5)%(n+9)), Row: i % 900}
		if i%2 == 0 {
			l = append(l, ref(from))
		} else {
			l = append(l, span(from, api.Ref{Row: from.Row + 99, Col: 7}))
		}
		top.Kids = append(top.Kids, i)
	}
	l = append(l, top)
	got := Nodes(l, "X0", shifts)
	if len(got) != n+1 || !slices.Equal(got[n].Kids, top.Kids) {
		t.Fatal("12.1: of a great tree")
	}
	for i := range n {
		want, at := l[i], (i*5)%(n+9)
		switch {
		case at < n && (at%7 == 3 || i%2 == 0 && i%900 == 0):
			want = dead()
		case at < n:
			want.Ref.Row = max(want.Ref.Row-1, 0)
			want.To.Row = max(want.To.Row-1, 0)
		}
		if !same(got[i:i+1], []api.Node{want}) {
			t.Fatalf("12.1: node %d of a great tree: %s, not %s", i, dump(got[i]), dump(want))
		}
	}
}

// 12.1: a tree far deeper than any cell.
func TestDeep(t *testing.T) {
	const n = 1 << 18
	l := []api.Node{ref(at(1, 1))}
	for i := range n {
		l = append(l, api.Node{Kind: api.NNeg, Kids: []int{i}})
	}
	got := Nodes(l, "S", rows(maps.Ins(4, 1)))
	l[0].Ref.Row = 2
	if !same(got, l) {
		t.Error("12.1: of a deep tree")
	}
}

// scribble writes into all that a list of nodes has, spare room too, and appends to it, and to its lists of kids.
func scribble(l []api.Node) {
	for _, n := range l {
		_ = append(n.Kids, 777)
		for i := range n.Kids[:cap(n.Kids)] {
			n.Kids[:cap(n.Kids)][i] = 999
		}
	}
	_ = append(l, num(777))
	for i := range l[:cap(l)] {
		l[:cap(l)][i] = num(999)
	}
}

// roomy tells nodes like those of l, with spare room: that of each list of kids is the next one, or is of no use.
func roomy(l []api.Node) []api.Node {
	told := append(make([]api.Node, 0, len(l)+5), l...)
	kids := make([]int, 0, 2*len(l)+5)
	for i, n := range l {
		from := len(kids)
		kids = append(kids, n.Kids...)
		told[i].Kids = kids[from:]
	}
	return told
}

// apart expects that two lists, each made anew by a function, share nothing: whatever is written into one.
func apart(t *testing.T, what string, make func() (a, b []api.Node)) {
	t.Helper()
	a, b := make()
	was := dump(a)
	scribble(b)
	if dump(a) != was {
		t.Fatalf("%s: written into one: the other was %s and is %s", what, was, dump(a))
	}
	a, b = make()
	was = dump(b)
	scribble(a)
	if dump(b) != was {
		t.Fatalf("%s: written into one: the other was %s and is %s", what, was, dump(b))
	}
}

// alone expects that no two lists of what is told share anything: each list of kids is written into, and appended to.
func alone(t *testing.T, what string, l []api.Node) {
	t.Helper()
	for i, n := range l {
		rest := slices.Concat(l[:i], l[i+1:])
		was := dump(rest)
		_ = append(n.Kids, 777)
		for k := range n.Kids[:cap(n.Kids)] {
			n.Kids[:cap(n.Kids)][k] = 999
		}
		if dump(rest) != was {
			t.Fatalf("%s: written into the kids of node %d: from %s to %s", what, i, was, dump(rest))
		}
	}
}

// 12.1, R3: what is told shares no memory with what was handed in, nor with anything else that was told.
func TestApart(t *testing.T) {
	d := dice(4)
	for range 1500 {
		l, own, shifts := d.tree(d.below(4)), d.sheet(), d.shifts(d.below(4))
		apart(t, "12.1: Nodes, and what was handed in", func() (a, b []api.Node) {
			a = roomy(l)
			return a, Nodes(a, own, shifts)
		})
		apart(t, "12.1: Nodes, twice", func() (a, b []api.Node) {
			a = roomy(l)
			return Nodes(a, own, shifts), Nodes(a, own, shifts)
		})
		alone(t, "12.1: Nodes", Nodes(roomy(l), own, shifts))
	}
}

// 12.1, R3: nodes whose lists of kids are one list, handed in, have theirs each when they are told.
func TestSharedKids(t *testing.T) {
	kids := []int{0, 1, 2, 3, 4, 5}
	made := func() []api.Node {
		l := []api.Node{ref(at(1, 1))}
		for i := range len(kids) {
			l = append(l, api.Node{Kind: api.NNeg, Kids: kids[i : i+1]})
		}
		return l
	}
	for _, shifts := range [][]api.Shift{nil, both()} {
		alone(t, "12.1: Nodes", Nodes(made(), "S", shifts))
	}
	if !slices.Equal(kids, []int{0, 1, 2, 3, 4, 5}) {
		t.Error("R3: what was handed in is", kids)
	}
	// Spare room that nodes without kids have.
	room := make([]int, 3)
	for _, n := range []api.Node{num(1), ref(at(0, 0)), ref(at(1, 1)), span(at(1, 1), at(2, 2)), call("F"), dead()} {
		n.Kids = room[:0]
		for _, shifts := range [][]api.Shift{nil, both(), {{Sheet: "S", Gone: true}}} {
			scribble(Nodes([]api.Node{n}, "S", shifts))
		}
	}
	if !slices.Equal(room, make([]int, 3)) {
		t.Error("R3: spare room that was handed in is", room)
	}
}

// R3: what is handed in stays, spare room too.
func TestUntouched(t *testing.T) {
	d := dice(5)
	for range 500 {
		l, own, shifts := roomy(d.tree(d.below(4))), d.sheet(), d.shifts(1+d.below(4))
		for i := range shifts {
			shifts[i].Rows.To = append(make([]int, 0, 20), shifts[i].Rows.To...)
			shifts[i].Cols.To = append(make([]int, 0, 20), shifts[i].Cols.To...)
		}
		all := func() string {
			var s strings.Builder
			for _, n := range l[:cap(l)] {
				s.WriteString(dump(n) + dump(n.Kids[:cap(n.Kids)]))
			}
			for _, shift := range shifts[:cap(shifts)] {
				s.WriteString(dump(shift) + dump(shift.Rows.To[:cap(shift.Rows.To)]) + dump(shift.Cols.To[:cap(shift.Cols.To)]))
			}
			return s.String()
		}
		was := all()
		Nodes(l, own, shifts)
		Text("="+show.Print(l), own, shifts)
		if all() != was {
			t.Fatalf("R3: what was handed in was %s and is %s", was, all())
		}
	}
}

// R1: the same calls tell the same, and none panics, also by maps that may not be.
func TestWrongMaps(t *testing.T) {
	l := join(call("F"), []api.Node{ref(at(0, 0))}, []api.Node{ref(at(2, 1))}, []api.Node{ref(at(998, 701))}, []api.Node{span(at(0, 0), at(2, 2))}, []api.Node{span(at(0, 0), at(998, 701))})
	s := "=" + show.Print(l)
	for _, now := range []int{math.MinInt, -1 << 40, -2, -1, 0, 1, 3, 1<<20 + 1, 1 << 40, math.MaxInt} {
		for _, m := range []api.Map{chart(now), chart(now, 3, 3, 3), chart(now, 2, 1, 0), chart(now, now, now-1), chart(now, -2, -3), chart(now, math.MaxInt, math.MinInt), chart(now, math.MinInt, -1, math.MaxInt)} {
			for _, shifts := range [][]api.Shift{rows(m), cols(m), {{Sheet: "S", Rows: m, Cols: m}}, {{Sheet: "S", Rows: m, Cols: m, Gone: true}}} {
				if a, b := Nodes(l, "S", shifts), Nodes(l, "S", shifts); !same(a, b) || len(a) != len(l) {
					t.Errorf("R1: Nodes by %s", dump(shifts))
				}
				if Text(s, "S", shifts) != Text(s, "S", shifts) {
					t.Errorf("R1: Text by %s", dump(shifts))
				}
			}
			// They are not asked where they are not needed.
			on(t, s, "T", s, rows(m))
			moved(t, "=A1+T!A1", "=#REF!+T!A1", []api.Shift{{Sheet: "S", Rows: m, Cols: m, Gone: true}, {Sheet: "S", Rows: m}})
		}
	}
}
