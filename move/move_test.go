package move

import (
	"math"
	"strings"
	"testing"

	"chequer/api"
	"chequer/maps"
	"chequer/parse"
	"chequer/show"
)

// moved expects what Text tells of a cell of the sheet S.
func moved(t *testing.T, s, want string, shifts []api.Shift) {
	t.Helper()
	on(t, s, "S", want, shifts)
}

// on expects what Text tells of a cell of some sheet.
func on(t *testing.T, s, own, want string, shifts []api.Shift) {
	t.Helper()
	if got := Text(s, own, shifts); got != want {
		t.Errorf("12.2: Text of %q on %q: %q, not %q", s, own, got, want)
	}
	checkText(t, s, own, shifts)
}

// becomes expects what Nodes tells of a single node of the sheet S.
func becomes(t *testing.T, n, want api.Node, shifts []api.Shift) {
	t.Helper()
	if got := Nodes([]api.Node{n}, "S", shifts); !same(got, []api.Node{want}) {
		t.Errorf("12.1: Nodes of %s by %s: %s, not %s", dump(n), dump(shifts), dump(got), dump(want))
	}
	check(t, []api.Node{n}, "S", shifts)
}

// tree tells the nodes of a formula without a = ahead.
func tree(t *testing.T, s string) []api.Node {
	t.Helper()
	l, e := parse.Parse(s)
	if e != api.OK {
		t.Fatalf("%q: %d", s, e)
	}
	return l
}

// both is the shift of most tests: on S a row put in at 1, and the column 1 taken out.
func both() []api.Shift {
	return []api.Shift{{Sheet: "S", Rows: maps.Ins(4, 1), Cols: maps.Del(3, 1)}}
}

func TestExample(t *testing.T) {
	moved(t, "=A2", "=A3", rows(maps.Ins(2, 1)))
	moved(t, "=A2", "=A3", rows(maps.Ins(1, 1)))
	moved(t, "=A1", "=A1", rows(maps.Ins(2, 1)))
}

// 12.1: a reference's sheet is its own one, or that of the cell, where it names none.
func TestSheets(t *testing.T) {
	for _, c := range []struct{ s, own, want string }{
		{"=A2", "S", "=A3"}, {"=A2", "T", "=A2"}, {"=A2", "", "=A2"}, {"=A2", "s", "=A2"}, {"=A2", "S1", "=A2"}, {"=A2", "S!", "=A2"}, {"=A2", "=", "=A2"}, {"=A2", "\xff", "=A2"}, {"=A2", strings.Repeat("S", 1<<20), "=A2"},
		{"=S!A2", "S", "=S!A3"}, {"=S!A2", "T", "=S!A3"}, {"=S!A2", "", "=S!A3"}, {"=S!A2", "\x00", "=S!A3"},
		{"=T!A2", "S", "=T!A2"}, {"=T!A2", "T", "=T!A2"}, {"=T!A2", "", "=T!A2"}, {"=s!A2", "S", "=s!A2"}, {"=s!A2", "s", "=s!A2"}, {"=SS!A2", "S", "=SS!A2"}, {"=S1!A2", "S", "=S1!A2"}, {"=A1!A2", "S", "=A1!A2"},
		{"=A1:A2", "S", "=A1:A3"}, {"=A1:A2", "T", "=A1:A2"}, {"=S!A1:A2", "S", "=S!A1:A3"}, {"=S!A1:A2", "T", "=S!A1:A3"}, {"=T!A1:A2", "S", "=T!A1:A2"}, {"=T!A1:A2", "T", "=T!A1:A2"}, {"=s!A1:A2", "S", "=s!A1:A2"},
		{"=A2+S!A2+T!A2+s!A2", "S", "=A3+S!A3+T!A2+s!A2"}, {"=A2+S!A2+T!A2+s!A2", "T", "=A2+S!A3+T!A2+s!A2"},
	} {
		on(t, c.s, c.own, c.want, both())
	}
	// Byte by byte: a sheet that is named "" is that of a cell on "", and of no other one.
	nowhere := []api.Shift{{Rows: maps.Ins(4, 0)}}
	on(t, "=A2+S!A2", "", "=A3+S!A2", nowhere)
	on(t, "=A2+S!A2", "S", "=A2+S!A2", nowhere)
	on(t, "=A2+S!A2", "\xff", "=A3+S!A2", []api.Shift{{Sheet: "\xff", Rows: maps.Ins(4, 0)}})
}

// 12.1: references with and without $ go alike, and keep theirs.
func TestAbsolute(t *testing.T) {
	for s, want := range map[string]string{
		"=A2": "=A3", "=$A2": "=$A3", "=A$2": "=A$3", "=$A$2": "=$A$3", "=C1": "=B1", "=$C1": "=$B1", "=C$1": "=B$1", "=$C$1": "=$B$1", "=C4": "=B5", "=$C4": "=$B5", "=C$4": "=B$5", "=$C$4": "=$B$5",
		"=B2": "=#REF!", "=$B2": "=#REF!", "=B$2": "=#REF!", "=$B$2": "=#REF!", "=S!$C$4": "=S!$B$5", "=S!$C4": "=S!$B5", "=S!C$4": "=S!B$5", "=S!$B$4": "=#REF!",
		"=$A1:C$2": "=$A1:B$3", "=A$1:$C2": "=A$1:$B3", "=$A$1:C2": "=$A$1:B3", "=A1:$C$2": "=A1:$B$3", "=$A$1:$C$2": "=$A$1:$B$3", "=S!A$2:$C2": "=S!A$3:$B3", "=$B$1:$B$2": "=#REF!",
	} {
		moved(t, s, want, both())
	}
	for _, absCol := range []bool{false, true} {
		for _, absRow := range []bool{false, true} {
			r := api.Ref{Sheet: "S", Row: 3, Col: 2, AbsCol: absCol, AbsRow: absRow}
			want := api.Ref{Sheet: "S", Row: 4, Col: 1, AbsCol: absCol, AbsRow: absRow}
			becomes(t, ref(r), ref(want), both())
			to, wantTo := api.Ref{Row: 3, Col: 2, AbsCol: !absRow, AbsRow: absCol}, api.Ref{Row: 4, Col: 1, AbsCol: !absRow, AbsRow: absCol}
			becomes(t, span(r, to), span(want, wantTo), both())
		}
	}
}

// 12.1: rows go by Rows, columns by Cols, each on its own.
func TestRowsAndCols(t *testing.T) {
	moved(t, "=C4", "=C5", rows(maps.Ins(4, 0)))
	moved(t, "=C4", "=D4", cols(maps.Ins(4, 0)))
	moved(t, "=A2", "=#REF!", rows(maps.Del(4, 1)))
	moved(t, "=B1", "=B1", rows(maps.Del(4, 1)))
	moved(t, "=B1", "=#REF!", cols(maps.Del(4, 1)))
	moved(t, "=A2", "=A2", cols(maps.Del(4, 1)))
	moved(t, "=A1:C3", "=A1:C4", rows(maps.Ins(4, 1)))
	moved(t, "=A1:C3", "=A1:D3", cols(maps.Ins(4, 1)))
	moved(t, "=A1:C3", "=A1:C2", rows(maps.Del(4, 1)))
	moved(t, "=A1:C3", "=A1:B3", cols(maps.Del(4, 1)))
	moved(t, "=A1:A2", "=A2:A3", rows(maps.Ins(4, 0)))
	moved(t, "=A1:B1", "=B1:C1", cols(maps.Ins(4, 0)))
}

// 12.1: spans of one place and of several, of which the first is gone, the last, both, those between, all.
func TestSpans(t *testing.T) {
	// Of ten places 0, 4, 5 and 9 are left, at 1, 2, 5 and 6; there are seven.
	m := chart(7, 1, -1, -1, -1, 2, 5, -1, -1, -1, 6)
	for _, c := range []struct {
		lo, hi, a, b int
		is           bool
	}{
		{0, 0, 1, 1, true}, {4, 4, 2, 2, true}, {9, 9, 6, 6, true}, {10, 10, 7, 7, true}, {12, 12, 9, 9, true}, // one place
		{1, 1, 0, 0, false}, {3, 3, 0, 0, false}, {8, 8, 0, 0, false}, // one place that is gone
		{4, 5, 2, 5, true}, {0, 9, 1, 6, true}, {0, 4, 1, 2, true}, {5, 9, 5, 6, true}, {0, 12, 1, 9, true}, {9, 10, 6, 7, true}, // the ends are left
		{1, 4, 2, 2, true}, {3, 5, 2, 5, true}, {3, 9, 2, 6, true}, {8, 9, 6, 6, true}, {8, 11, 6, 8, true}, {6, 10, 6, 7, true}, // the first is gone
		{0, 1, 1, 1, true}, {0, 3, 1, 1, true}, {4, 6, 2, 5, true}, {5, 8, 5, 5, true}, {0, 8, 1, 5, true}, // the last is gone
		{1, 6, 2, 5, true}, {3, 8, 2, 5, true}, {2, 7, 2, 5, true}, // both are gone
		{1, 3, 0, 0, false}, {1, 2, 0, 0, false}, {6, 8, 0, 0, false}, {7, 8, 0, 0, false}, // all are gone
	} {
		want := dead()
		if c.is {
			want = span(at(c.a, 3), at(c.b, 5))
		}
		becomes(t, span(at(c.lo, 3), at(c.hi, 5)), want, rows(m))
		if c.is {
			want = span(at(3, c.a), at(5, c.b))
		}
		becomes(t, span(at(3, c.lo), at(5, c.hi)), want, cols(m))
		if c.is {
			want = span(at(c.a, c.a), at(c.b, c.b))
		}
		becomes(t, span(at(c.lo, c.lo), at(c.hi, c.hi)), want, []api.Shift{{Sheet: "S", Rows: m, Cols: m}})
	}
}

// 12.1: the image of -1, of the row, of the column, of both.
func TestGonePlaces(t *testing.T) {
	gone := chart(0, -1)
	for _, c := range []struct {
		rows, cols api.Map
		dies       bool
	}{{gone, gone, true}, {gone, stays(), true}, {stays(), gone, true}, {stays(), stays(), false}, {chart(1, 0), chart(1, 0), false}} {
		shifts := []api.Shift{{Sheet: "S", Rows: c.rows, Cols: c.cols}}
		r := api.Ref{Sheet: "S", AbsRow: true, AbsCol: true}
		want, wantSpan := ref(r), span(r, api.Ref{AbsCol: true})
		if c.dies {
			want, wantSpan = dead(), dead()
		}
		becomes(t, ref(r), want, shifts)
		becomes(t, span(r, api.Ref{AbsCol: true}), wantSpan, shifts)
	}
}

// 12.1: up to MaxRow and MaxCol a reference lives, and beyond them no more.
func TestLimits(t *testing.T) {
	for by := -3; by < 4; by++ {
		for from := range 3 {
			row, col := ref(at(api.MaxRow+by, 0)), ref(at(0, api.MaxCol+by))
			if by > 0 {
				row, col = dead(), dead()
			}
			// Behind the old places, and by a place of the map itself.
			becomes(t, ref(at(from, 0)), row, rows(chart(api.MaxRow+by-from)))
			becomes(t, ref(at(0, from)), col, cols(chart(api.MaxCol+by-from)))
			becomes(t, ref(at(0, 0)), row, rows(chart(2000, api.MaxRow+by)))
			becomes(t, ref(at(0, 0)), col, cols(chart(2000, api.MaxCol+by)))
		}
	}
	becomes(t, ref(at(0, 0)), dead(), rows(chart(1<<20, 1<<20-1)))
	becomes(t, ref(at(0, 0)), dead(), cols(chart(1<<20, 1<<20-1)))
	becomes(t, ref(at(0, 0)), ref(at(api.MaxRow, api.MaxCol)), []api.Shift{{Sheet: "S", Rows: chart(api.MaxRow), Cols: chart(api.MaxCol)}})
	becomes(t, ref(at(0, 0)), dead(), []api.Shift{{Sheet: "S", Rows: chart(api.MaxRow + 1), Cols: chart(api.MaxCol)}})
	becomes(t, ref(at(0, 0)), dead(), []api.Shift{{Sheet: "S", Rows: chart(api.MaxRow), Cols: chart(api.MaxCol + 1)}})
	// A row may be where no column may be any more.
	becomes(t, ref(at(0, 0)), ref(at(api.MaxCol+1, 0)), rows(chart(api.MaxCol+1)))
	in, out := maps.Ins(1, 0), maps.Del(1, 0)
	for _, c := range []struct {
		s, want string
		shifts  []api.Shift
	}{
		{"=A999", "=#REF!", rows(in)}, {"=A998", "=A999", rows(in)}, {"=A997", "=A998", rows(in)}, {"=A999", "=A998", rows(out)}, {"=ZZ999", "=ZZ998", rows(out)}, {"=ZZ999", "=ZY999", cols(out)},
		{"=ZZ1", "=#REF!", cols(in)}, {"=ZY1", "=ZZ1", cols(in)}, {"=ZZ1", "=ZY1", cols(out)}, {"=$ZZ$1", "=#REF!", cols(in)}, {"=S!$ZY$1", "=S!$ZZ$1", cols(in)}, {"=ZZ999", "=ZZ999", rows(stays())}, {"=ZZ999", "=ZZ999", nil},
		{"=Z1", "=AA1", cols(in)}, {"=AA1", "=Z1", cols(out)}, {"=AZ1", "=BA1", cols(in)},
	} {
		moved(t, c.s, c.want, c.shifts)
	}
}

// 12.1: spans that grow up to MaxRow and MaxCol, and beyond them.
func TestSpanLimits(t *testing.T) {
	first, mid, out := maps.Ins(1, 0), maps.Ins(4, 3), maps.Del(4, 3)
	for _, c := range []struct {
		s, want string
		shifts  []api.Shift
	}{
		{"=A1:A998", "=A2:A999", rows(first)}, {"=A1:A999", "=#REF!", rows(first)}, {"=A999:A999", "=#REF!", rows(first)}, {"=A998:A999", "=#REF!", rows(first)}, {"=A998:A998", "=A999:A999", rows(first)},
		{"=A1:A998", "=A1:A999", rows(mid)}, {"=A1:A999", "=#REF!", rows(mid)}, {"=A1:A999", "=A1:A998", rows(out)}, {"=A1:A3", "=A1:A3", rows(mid)},
		{"=A1:ZY1", "=B1:ZZ1", cols(first)}, {"=A1:ZZ1", "=#REF!", cols(first)}, {"=ZZ1:ZZ1", "=#REF!", cols(first)}, {"=ZY1:ZZ1", "=#REF!", cols(first)}, {"=ZY1:ZY1", "=ZZ1:ZZ1", cols(first)},
		{"=A1:ZY1", "=A1:ZZ1", cols(mid)}, {"=A1:ZZ1", "=#REF!", cols(mid)}, {"=A1:ZZ1", "=A1:ZY1", cols(out)},
		{"=A1:ZZ999", "=A1:ZZ998", rows(out)}, {"=A1:ZZ999", "=A1:ZY999", cols(out)}, {"=A1:ZZ999", "=#REF!", rows(mid)}, {"=A1:ZZ999", "=#REF!", cols(mid)}, {"=A1:ZZ999", "=A1:ZZ999", nil},
		{"=S!$A$1:ZZ$999", "=#REF!", rows(mid)}, {"=S!$A$1:ZZ$998", "=S!$A$1:ZZ$999", rows(mid)},
	} {
		moved(t, c.s, c.want, c.shifts)
	}
	for by := -3; by < 4; by++ {
		row, col := span(at(0, 0), at(api.MaxRow+by, 0)), span(at(0, 0), at(0, api.MaxCol+by))
		if by > 0 {
			row, col = dead(), dead()
		}
		becomes(t, span(at(0, 0), at(1, 0)), row, rows(chart(2000, 0, api.MaxRow+by)))
		becomes(t, span(at(0, 0), at(0, 1)), col, cols(chart(2000, 0, api.MaxCol+by)))
		becomes(t, span(at(0, 0), at(2, 0)), row, rows(chart(2000, 0, api.MaxRow+by, -1)))
		becomes(t, span(at(0, 0), at(0, 2)), col, cols(chart(2000, 0, api.MaxCol+by, -1)))
	}
	// What is left of a span counts: its last place, which would go beyond, is gone.
	becomes(t, span(at(0, 0), at(2, 0)), span(at(0, 0), at(api.MaxRow, 0)), rows(chart(2000, 0, api.MaxRow, -1)))
	becomes(t, span(at(0, 0), at(1, 0)), dead(), rows(chart(2000, api.MaxRow+1, api.MaxRow+2)))
	becomes(t, span(at(0, 0), at(0, 1)), dead(), cols(chart(2000, api.MaxCol+1, api.MaxCol+2)))
}

// 12.1: references behind the old places go by as many as there are more now, or less.
func TestBehind(t *testing.T) {
	for _, c := range []struct {
		s, want string
		rows    api.Map
	}{
		{"=A5", "=A6", maps.Ins(4, 4)}, {"=A5", "=A6", maps.Ins(4, 0)}, {"=A4", "=A4", maps.Ins(4, 4)}, {"=A9", "=A8", maps.Del(4, 0)}, {"=A9", "=A9", maps.Same(4)}, {"=A9", "=A9", stays()},
		{"=A3", "=A1", chart(0, -1, -1)}, {"=A2", "=#REF!", chart(0, -1, -1)}, {"=A3", "=A8", chart(5)}, {"=A1", "=A6", chart(5)}, {"=A3:A9", "=A1:A7", chart(0, -1, -1)}, {"=A1:A9", "=A1:A7", chart(0, -1, -1)},
		{"=A2:A3", "=A4:A9", chart(9, 0, 3, 8)}, {"=A3:A4", "=A9:A10", chart(9, 0, 3, 8)}, {"=A4:A5", "=A10:A11", chart(9, 0, 3, 8)},
	} {
		moved(t, c.s, c.want, rows(c.rows))
	}
}

// 12.1: of several shifts each reference goes by the first one of its sheet, and by no other one.
func TestShifts(t *testing.T) {
	in, out := maps.Ins(4, 0), maps.Del(4, 0)
	s1, s2 := api.Shift{Sheet: "S", Rows: in}, api.Shift{Sheet: "S", Rows: out}
	gone, t1 := api.Shift{Sheet: "S", Gone: true}, api.Shift{Sheet: "T", Cols: in}
	const formula = "=A2+S!A2+T!A2+U!A2+SUM(A2:B3,T!A2:B3)"
	for _, c := range []struct {
		shifts []api.Shift
		want   string
	}{
		{nil, formula}, {[]api.Shift{}, formula}, {make([]api.Shift, 0, 3), formula},
		{[]api.Shift{s1}, "=A3+S!A3+T!A2+U!A2+SUM(A3:B4,T!A2:B3)"}, {[]api.Shift{t1}, "=A2+S!A2+T!B2+U!A2+SUM(A2:B3,T!B2:C3)"},
		{[]api.Shift{s1, t1}, "=A3+S!A3+T!B2+U!A2+SUM(A3:B4,T!B2:C3)"}, {[]api.Shift{t1, s1}, "=A3+S!A3+T!B2+U!A2+SUM(A3:B4,T!B2:C3)"},
		{[]api.Shift{s1, s2}, "=A3+S!A3+T!A2+U!A2+SUM(A3:B4,T!A2:B3)"}, {[]api.Shift{s2, s1}, "=A1+S!A1+T!A2+U!A2+SUM(A1:B2,T!A2:B3)"}, {[]api.Shift{s1, s1}, "=A3+S!A3+T!A2+U!A2+SUM(A3:B4,T!A2:B3)"},
		{[]api.Shift{s1, gone}, "=A3+S!A3+T!A2+U!A2+SUM(A3:B4,T!A2:B3)"}, {[]api.Shift{gone, s1}, "=#REF!+#REF!+T!A2+U!A2+SUM(#REF!,T!A2:B3)"}, {[]api.Shift{{Sheet: "S"}, s1, gone}, formula},
		{[]api.Shift{s2, t1, s1, gone}, "=A1+S!A1+T!B2+U!A2+SUM(A1:B2,T!B2:C3)"}, {[]api.Shift{t1, s2, {Sheet: "T", Gone: true}}, "=A1+S!A1+T!B2+U!A2+SUM(A1:B2,T!B2:C3)"},
		{[]api.Shift{{Sheet: "X", Rows: in}, {Sheet: "s", Gone: true}, {Sheet: "", Gone: true}, {Sheet: "S1", Gone: true}, {Sheet: "\xff", Gone: true}}, formula},
		{[]api.Shift{{Sheet: "X", Gone: true}, {Sheet: "", Gone: true}, s1, {Sheet: "Y", Rows: in}}, "=A3+S!A3+T!A2+U!A2+SUM(A3:B4,T!A2:B3)"},
	} {
		moved(t, formula, c.want, c.shifts)
	}
}

// 12.1: where the sheet is gone all its references are, whatever the maps say.
func TestGone(t *testing.T) {
	for _, shift := range []api.Shift{{Sheet: "S", Gone: true}, {Sheet: "S", Rows: maps.Same(9), Cols: maps.Same(9), Gone: true}, {Sheet: "S", Rows: maps.Ins(4, 0), Cols: maps.Del(4, 0), Gone: true}} {
		shifts := []api.Shift{shift}
		moved(t, "=A1", "=#REF!", shifts)
		moved(t, "=ZZ999", "=#REF!", shifts)
		moved(t, "=$A$1:ZZ999", "=#REF!", shifts)
		moved(t, "=-S!B2*(S!A1:B2+A1)", "=-#REF!*(#REF!+#REF!)", shifts)
		on(t, "=A1+S!A1+S!A1:B2", "T", "=A1+#REF!+#REF!", shifts)
		on(t, "=T!A1", "S", "=T!A1", shifts)
	}
	moved(t, "=A1+1", "=A1+1", []api.Shift{{Sheet: "S", Rows: maps.Same(9), Cols: maps.Same(9)}})
}

// 12.1: an NDead has nothing beside, whatever stood there.
func TestDeadHasNothing(t *testing.T) {
	r, to := api.Ref{Sheet: "S", Row: 1, Col: 1, AbsCol: true, AbsRow: true}, api.Ref{Row: 2, Col: 2, AbsCol: true, AbsRow: true}
	whole := maps.Del(1, 0)
	for _, shift := range []api.Shift{{Gone: true}, {Rows: chart(0, -1, -1, -1)}, {Cols: chart(0, -1, -1, -1)}, {Rows: chart(5000)}, {Cols: chart(5000)}, {Rows: chart(api.MaxRow), Cols: whole}, {Rows: whole, Cols: chart(api.MaxCol)}} {
		shift.Sheet = "S"
		for _, n := range []api.Node{ref(r), span(r, to)} {
			n.Kids = make([]int, 0, 4)
			got := Nodes([]api.Node{n}, "T", []api.Shift{shift})
			if len(got) != 1 || got[0].Kind != api.NDead || got[0].Num != 0 || got[0].Text != "" || got[0].Ref != (api.Ref{}) || got[0].To != (api.Ref{}) || len(got[0].Kids) != 0 {
				t.Errorf("12.1: what is dead: %s", dump(got))
			}
		}
	}
}

// 12.1: all other nodes stay, with their kids, wherever they stand.
func TestOtherNodes(t *testing.T) {
	shifts := []api.Shift{{Sheet: "S", Rows: maps.Ins(4, 0), Cols: maps.Del(4, 0)}, {Sheet: "T", Gone: true}, {Sheet: "", Gone: true}}
	for _, n := range []api.Node{num(0), num(7), num(math.MaxInt), quoted(""), quoted("B2"), quoted("T!A1"), truth(0), truth(1), dead(), call("NOW"), call("AAA1")} {
		becomes(t, n, n, shifts)
	}
	for s, want := range map[string]string{
		"B2": "A3", "-B2": "-A3", "B2+1": "A3+1", "1+B2": "1+A3", "(B2+1)*B2": "(A3+1)*A3", "B2=C3": "A3=B4", "B2<>C3": "A3<>B4", "B2<C3": "A3<B4", "B2<=C3": "A3<=B4", "B2>C3": "A3>B4", "B2>=C3": "A3>=B4", "B2&C3": "A3&B4",
		"B2-C3": "A3-B4", "B2/C3": "A3/B4", "SUM(B2)": "SUM(A3)", "SUM(B2,C3,B2:C3)": "SUM(A3,B4,A3:B4)", "SUM()": "SUM()", "IF(B2>1,SUM(B2:C3),\"B2\"&TRUE)": "IF(A3>1,SUM(A3:B4),\"B2\"&TRUE)",
		"A1&\"A1\"": "#REF!&\"A1\"", "T!A1:B2*#REF!": "#REF!*#REF!", "F(F(F(B2)),G(C3))": "F(F(F(A3)),G(B4))", "--B2": "--A3", "-(B2-(C3-B2))": "-(A3-(B4-A3))", "1+2": "1+2",
	} {
		l := tree(t, s)
		if got := Nodes(l, "S", shifts); show.Print(got) != want || !same(got, tree(t, want)) {
			t.Errorf("12.1: Nodes of %q: %s", s, dump(got))
		}
		check(t, l, "S", shifts)
		moved(t, "="+s, "="+want, shifts)
	}
}

// 12.1: of lists that are no Tree, and of none, nothing is told.
func TestNoTree(t *testing.T) {
	r := at(1, 1)
	of := func(kind int, kids ...int) api.Node { return api.Node{Kind: kind, Kids: kids} }
	for i, l := range [][]api.Node{nil, {}, make([]api.Node, 0, 4), {{}}, {of(-1)}, {of(20)}, {of(99)}, {of(math.MaxInt)}, {of(math.MinInt)}, {num(-1)}, {truth(2)}, {quoted("\n")}, {{Kind: api.NDead, Ref: r}}, {{Kind: api.NRef, Ref: r, To: r}}, {{Kind: api.NRef, Ref: r, Num: 1}}, {{Kind: api.NRef, Ref: r, Text: "A"}},
		{ref(at(999, 0))}, {ref(at(0, 702))}, {ref(at(-1, 0))}, {ref(at(0, -1))}, {ref(api.Ref{Sheet: "1"})}, {ref(api.Ref{Sheet: "a b"})}, {ref(api.Ref{Sheet: "abcdefghijklm"})}, {ref(at(math.MaxInt, math.MinInt))},
		{span(at(2, 2), r)}, {span(at(1, 2), at(2, 1))}, {span(at(2, 1), at(1, 2))}, {span(r, api.Ref{Sheet: "S", Row: 1, Col: 1})}, {span(r, at(999, 1))}, {span(r, at(1, 702))}, {span(at(-1, 0), r)}, {call("")}, {call("f")}, {call("A1")}, {call("TRUE")},
		{ref(r), ref(r)}, {of(api.NNeg, 0)}, {of(api.NNeg, 1), ref(r)}, {ref(r), of(api.NNeg)}, {ref(r), of(api.NNeg, 1)}, {ref(r), of(api.NNeg, -1)}, {ref(r), of(api.NNeg, 0), ref(r)}, {ref(r), ref(r), of(api.NNeg, 1)}, {ref(r), of(api.NRef, 0)}, {ref(r), of(api.NDead, 0)},
		{ref(r), ref(r), of(api.NAdd, 1, 0)}, {ref(r), ref(r), of(api.NAdd, 0, 0)}, {ref(r), ref(r), of(api.NAdd, 0, 2)}, {ref(r), ref(r), of(api.NAdd, 0, 1, 1)}, {ref(r), call("F")}, {ref(r), ref(r), call("F", 1)}, {ref(r), call("F", math.MaxInt)}} {
		for _, shifts := range [][]api.Shift{nil, both(), {{Sheet: "S", Gone: true}}, {{Gone: true}}, {{Sheet: "S", Rows: maps.Del(3, 1)}}} {
			for _, own := range []string{"S", ""} {
				if got := Nodes(l, own, shifts); len(got) != 0 {
					t.Errorf("12.1: Nodes of list %d, no Tree: %s", i, dump(got))
				}
			}
		}
	}
	// What may not be, but would by where it goes, is no Tree, either.
	if got := Nodes([]api.Node{ref(at(999, 0))}, "S", rows(maps.Del(1, 0))); len(got) != 0 {
		t.Errorf("12.1: Nodes of a reference beyond: %s", dump(got))
	}
}

// 12.2: what is no formula that may be stays, of each kind.
func TestTextsStay(t *testing.T) {
	shifts := append(both(), api.Shift{Sheet: "T", Gone: true})
	long := strings.Repeat("+A2", 100)
	for _, s := range []string{
		"", "0", "5", "-5", "9223372036854775807", "-9223372036854775808", "'", "'A2", "'=A2", "'= A2", "''", "'\x00\xff", "'" + strings.Repeat("A2", 149) + "x", "'" + strings.Repeat("A2", 400),
		"A2", "S!A2", "T!A2", "A2+A2", " =A2", " ", "007", "-0", "+5", "-", "--5", "abc", "\x00", "\xff", "é", "#REF!", "\"=A2\"", "(=A2)",
		"=", "==A2", "= A2", "=A2 ", "=A2 +1", "=(A2)", "=((A2+1))*2", "=A2+(1*2)", "=-(A2)", "=+A2", "=A2+", "=A2+*1", "=a2", "=A02", "=A0", "=A1000", "=AAA2", "=A2:", "=:A2", "=A2:A1", "=B2:A2", "=A2:S!A3", "=A2:A3:A4", "=S!", "=!A2", "=1!A2", "=S!S!A2", "=abcdefghijklm!A2",
		"=A2\n", "=A2\x00", "=\"A2", "=\"\n\"", "='A2", "='A2'", "=sum(A2)", "=SUM(A2", "=SUM(A2,)", "=SUM A2", "=TRUE()", "=true", "=A2()", "=A2 A2", "=A2,A2", "=A2;A2", "=#REF", "=01+A2", "=1.5+A2", "=9223372036854775808+A2",
		"=" + strings.Repeat("-", 13) + "A2", "=" + strings.Repeat("F(", 13) + "A2" + strings.Repeat(")", 13), "=" + strings.Repeat("(", 13) + "A2" + strings.Repeat(")", 13), "=A2" + long, "=A2" + strings.Repeat(long, 1000), "=" + strings.Repeat("(", 1<<16),
	} {
		for _, own := range []string{"S", "T", "", "\xff"} {
			on(t, s, own, s, shifts)
			on(t, s, own, s, nil)
		}
	}
	// Those that are as deep as may be are moved.
	moved(t, "="+strings.Repeat("-", 12)+"A2", "="+strings.Repeat("-", 12)+"A3", shifts)
	moved(t, "="+strings.Repeat("F(", 12)+"T!A2"+strings.Repeat(")", 12), "="+strings.Repeat("F(", 12)+"#REF!"+strings.Repeat(")", 12), shifts)
	// Formulas that may be, without a reference that goes anywhere.
	for _, s := range []string{"=1", "=\"A2\"", "=\"T!A2\"&\"\"\"A2\"\"\"", "=TRUE", "=#REF!", "=SUM()", "=1+2*3", "=A1", "=T1!A2", "=V!A2:B3", "=LOG10(A1)", "=\"\xff\""} {
		moved(t, s, s, shifts)
	}
}

// pad tells a text of so many bytes, within its marks.
func pad(n int) string {
	return `"` + strings.Repeat("x", n-2) + `"`
}

// 12.2: a moved formula of MaxCell bytes is kept, and of one more is dead as a whole.
func TestTextLength(t *testing.T) {
	in, out := rows(maps.Ins(1, 0)), rows(maps.Del(1, 0))
	gone := []api.Shift{{Sheet: "S", Gone: true}}
	for _, c := range []struct {
		s, moved string
		shifts   []api.Shift
	}{{"=A9&", "=A10&", in}, {"=A1&", "=A2&", in}, {"=A10&", "=A9&", out}, {"=A1&", "=#REF!&", gone}, {"=$A$1:$B$2&", "=#REF!&", gone}, {"=A9&$A99&S!A9:A99&", "=A10&$A100&S!A10:A100&", in}, {"=Z1&AA1:ZY2&", "=AA1&AB1:ZZ2&", cols(maps.Ins(1, 0))}, {"=A9&", "=A9&", nil}} {
		for size := 280; size <= api.MaxCell; size++ {
			filler := pad(size - len(c.s))
			want := c.moved + filler
			if len(want) > 300 {
				want = "=#REF!"
			}
			moved(t, c.s+filler, want, c.shifts)
		}
		// What has more than MaxCell bytes itself is no formula that may be, even if it would become shorter.
		s := c.s + pad(api.MaxCell+1-len(c.s))
		moved(t, s, s, c.shifts)
	}
	row := "=" + strings.Repeat("A9+", 99)
	moved(t, row+"A9", "=#REF!", in)
	moved(t, row+"A9", row+"A9", nil)
	moved(t, row+"A1", "=#REF!", rows(maps.Ins(8, 8)))
	moved(t, "="+strings.Repeat("A9+", 74)+"A9", "="+strings.Repeat("A10+", 74)+"A10", in)
}

// 12.2: Text tells Print of what Nodes tells.
func TestTextOfNodes(t *testing.T) {
	for _, s := range []string{"1+2", "A2", "A1:C3", "SUM(A2,B2:C3)*-T!A1", "IF(A2=\"A2\",S!A2,#REF!)", "(1+A2)*3-(4-C9)"} {
		shifts := append(both(), api.Shift{Sheet: "T", Gone: true})
		want := "=" + show.Print(Nodes(tree(t, s), "S", shifts))
		if got := Text("="+s, "S", shifts); got != want {
			t.Errorf("12.2: Text of %q: %q, not %q", "="+s, got, want)
		}
	}
}
