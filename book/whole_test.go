package book

import (
	"slices"
	"strings"
	"testing"

	"chequer/api"
)

// 10.1, 10.2, 10.3: all small sheets, alone and two by two, at all places and beside them.
func TestAllSmall(t *testing.T) {
	var l []api.Sheet
	for cols := -1; cols <= 3; cols++ {
		for rows := range 4 {
			for width := max(cols-1, 0); width <= cols+1; width++ {
				s := sized(cols, rows, width).Sheets[0]
				for i, row := range s.Rows {
					for j := range row {
						row[j] = goodCells[4*i+j]
					}
				}
				l = append(l, s)
			}
		}
	}
	for _, s := range l {
		check(t, made(s), 1)
	}
	for i, a := range l {
		for j, b := range l {
			same(t, made(a), made(b), i == j || dump(made(a)) == dump(made(b)))
			b.Name = "B"
			check(t, made(a, b), 7)
		}
	}
}

// 10.1, 10.2, 10.3: workbooks that may be, and ones that are close to it.
func TestAny(t *testing.T) {
	d := dice(1)
	count := map[bool]int{}
	for range 2000 {
		b := d.book(4, 3, 3)
		check(t, b, 50+d.below(50))
		for range 2 {
			d.spoil(&b)
			check(t, b, 50+d.below(50))
			count[len(faults(b)) == 0]++
		}
	}
	if count[true] < 500 || count[false] < 500 {
		t.Error("too few of one kind", count)
	}
}

// 10.1: workbooks of any size that may be: May, Same and Copy, and one thing changed.
func TestAnySize(t *testing.T) {
	d := dice(2)
	count := map[bool]int{}
	for range 400 {
		b := d.book(5, api.MaxRows, api.MaxCols)
		other := Copy(b)
		if !May(b) || !May(other) {
			t.Fatalf("10.1: May of\n%s", dump(b))
		}
		same(t, b, other, true)
		d.spoil(&other)
		same(t, b, other, dump(b) == dump(other))
		if l := faults(other); May(other) != (len(l) == 0) {
			t.Fatalf("10.1: May of\n%s: %v: %q", dump(other), May(other), l)
		}
		count[dump(b) == dump(other)]++
		if !May(b) {
			t.Fatalf("10.1: a copy spoilt\n%s", dump(b))
		}
	}
	if count[false] < 200 {
		t.Error("too few of one kind", count)
	}
}

// 10.3: cells set one by one, from nothing to what each shall be, in any order.
func TestSetAll(t *testing.T) {
	d := dice(3)
	for range 60 {
		want := d.book(3, 6, 5)
		all := cells(want)
		b := filled(want, nil)
		var order []api.Spot
		for _, s := range spots(want) {
			if _, is := all[s]; is {
				order = slices.Insert(order, d.below(len(order)+1), s)
			}
		}
		for i, s := range order {
			next, e := Set(b, s, all[s])
			if e != api.OK || Get(next, s) != all[s] {
				t.Fatalf("10.2: Set of %v: %d", s, e)
			}
			for _, other := range order {
				if other != s && Get(next, other) != Get(b, other) {
					t.Fatalf("10.3: Set of %v (the %d.) changes %v", s, i, other)
				}
			}
			b = next
		}
		same(t, b, want, true)
	}
}

// scribble writes into all that a workbook's memory has, spare room too, and appends to all its lists.
func scribble(b api.Book) {
	for i := range b.Sheets {
		for j := range b.Sheets[i].Rows {
			scribbleRow(b.Sheets[i].Rows[j])
		}
		scribbleRows(b.Sheets[i].Rows)
	}
	scribbleSheets(b.Sheets)
}

func scribbleRow(row []string) {
	_ = append(row, "appended")
	for i := range row[:cap(row)] {
		row[:cap(row)][i] = "written"
	}
}

func scribbleRows(rows [][]string) {
	_ = append(rows, []string{"appended"})
	for i := range rows[:cap(rows)] {
		rows[:cap(rows)][i] = []string{"written", "written"}
	}
}

func scribbleSheets(l []api.Sheet) {
	_ = append(l, api.Sheet{Name: "appended"})
	for i := range l[:cap(l)] {
		l[:cap(l)][i] = api.Sheet{Name: "written", Cols: 99}
	}
}

// roomy tells a workbook like b all of whose rows, lists of rows and sheets stand in one piece of memory each, one
// behind the other, each with the next ones as its spare room.
func roomy(b api.Book) api.Book {
	var texts []string
	var rows [][]string
	sheets := slices.Clone(b.Sheets)
	for _, s := range b.Sheets {
		for _, row := range s.Rows {
			texts = append(texts, row...)
		}
	}
	at := 0
	for _, s := range b.Sheets {
		for _, row := range s.Rows {
			rows = append(rows, texts[at:at+len(row)])
			at += len(row)
		}
	}
	at = 0
	for i, s := range b.Sheets {
		sheets[i].Rows = rows[at : at+len(s.Rows)]
		at += len(s.Rows)
	}
	sheets = append(sheets, api.Sheet{Name: "spare"})
	return api.Book{Sheets: sheets[:len(sheets)-1]}
}

// apart expects that two workbooks, each made anew by a function, share nothing: whatever is written into one.
func apart(t *testing.T, what string, make func() (api.Book, api.Book)) {
	t.Helper()
	a, b := make()
	was := dump(a)
	scribble(b)
	if dump(a) != was {
		t.Fatalf("%s: written into what was told: it was\n%sand is\n%s", what, was, dump(a))
	}
	a, b = make()
	was = dump(b)
	scribble(a)
	if dump(b) != was {
		t.Fatalf("%s: written into what was handed in: it was\n%sand is\n%s", what, was, dump(b))
	}
}

// alone expects that no two lists of a workbook that is made anew share anything: what is written into one stays there.
func alone(t *testing.T, what string, made func() api.Book) {
	t.Helper()
	for i := range made().Sheets {
		for j := range made().Sheets[i].Rows {
			b, want := made(), made()
			scribbleRow(b.Sheets[i].Rows[j])
			b.Sheets[i].Rows[j], want.Sheets[i].Rows[j] = nil, nil
			if dump(b) != dump(want) {
				t.Fatalf("%s: written into row %d of sheet %d:\n%s", what, j, i, dump(b))
			}
		}
		b, want := made(), made()
		scribbleRows(b.Sheets[i].Rows)
		b.Sheets[i].Rows, want.Sheets[i].Rows = nil, nil
		if dump(b) != dump(want) {
			t.Fatalf("%s: written into the rows of sheet %d:\n%s", what, i, dump(b))
		}
	}
}

// 10.1, R3: a copy is in memory of its own, also one of a workbook that may not be.
func TestCopyApart(t *testing.T) {
	d := dice(4)
	for range 200 {
		b := d.book(4, 4, 4)
		if d.below(2) == 0 {
			d.spoil(&b)
		}
		apart(t, "10.1: Copy", func() (api.Book, api.Book) {
			a := roomy(b)
			return a, Copy(a)
		})
		alone(t, "10.1: Copy", func() api.Book { return Copy(roomy(b)) })
	}
}

// 10.1, R3: a copy of a workbook whose rows are one list, as are its lists of rows, has them one by one.
func TestCopyShared(t *testing.T) {
	shared := func() api.Book {
		row := append(make([]string, 0, 8), "1", "2")
		rows := append(make([][]string, 0, 8), row, row, row)
		return made(api.Sheet{Name: "A", Cols: 2, Rows: rows}, api.Sheet{Name: "B", Cols: 2, Rows: rows}, api.Sheet{Name: "C", Cols: 2, Rows: rows[:1]})
	}
	check(t, shared(), 1)
	apart(t, "10.1: Copy", func() (api.Book, api.Book) {
		a := shared()
		return a, Copy(a)
	})
	alone(t, "10.1: Copy", func() api.Book { return Copy(shared()) })
	b, e := Set(shared(), api.Spot{Sheet: "B", Row: 1, Col: 0}, "7")
	if want := made(table("A", 2, "1|2", "1|2", "1|2"), table("B", 2, "1|2", "7|2", "1|2"), table("C", 2, "1|2")); e != api.OK || !Same(b, want) {
		t.Errorf("10.3: Set of one of many that share a row: %d\n%s", e, dump(b))
	}
}

// 10.2, R3: what Set tells shares no memory with what it was handed in.
func TestSetApart(t *testing.T) {
	d := dice(5)
	for range 100 {
		b := d.book(3, 3, 3)
		for s := range cells(b) {
			set := func() (api.Book, api.Book) {
				a := roomy(b)
				told, e := Set(a, s, "'set")
				if e != api.OK || dump(a) != dump(b) {
					t.Fatalf("10.2: Set of %v: %d: what was handed in is\n%s", s, e, dump(a))
				}
				return a, told
			}
			apart(t, "10.2: Set", set)
			alone(t, "10.2: Set", func() api.Book {
				_, told := set()
				return told
			})
		}
	}
}

// 10.1: a copy is written into, and appended to, by hand.
func TestCopyByHand(t *testing.T) {
	b := two()
	c := Copy(b)
	c.Sheets[0].Rows[0][0] = "9"
	c.Sheets[0].Rows[1] = append(c.Sheets[0].Rows[1], "10")
	c.Sheets[1].Rows = append(c.Sheets[1].Rows, []string{"11"})
	c.Sheets[1].Name, c.Sheets[1].Cols = "C", 7
	c.Sheets = append(c.Sheets, api.Sheet{Name: "D"})
	if dump(b) != dump(two()) {
		t.Errorf("10.1: a copy's change comes to\n%s", dump(b))
	}
	c = Copy(b)
	b.Sheets[0].Rows[0][0] = "9"
	b.Sheets[0].Rows[1] = append(b.Sheets[0].Rows[1], "10")
	b.Sheets[1].Rows = append(b.Sheets[1].Rows, []string{"11"})
	b.Sheets[1].Name, b.Sheets[1].Cols = "C", 7
	b.Sheets = append(b.Sheets, api.Sheet{Name: "D"})
	if dump(c) != dump(two()) {
		t.Errorf("10.1: a change comes to the copy\n%s", dump(c))
	}
}

// R1: workbooks that are far too large end each call.
func TestHuge(t *testing.T) {
	const many = 1 << 20
	long := strings.Repeat("x", 1<<22)
	wide := made(api.Sheet{Name: "A", Cols: many, Rows: [][]string{make([]string, many)}})
	high := made(api.Sheet{Name: "A", Rows: make([][]string, many)})
	full := sized(1, many, 1)
	sheets := api.Book{Sheets: make([]api.Sheet, many)}
	sheets.Sheets[many-1].Name = long
	texts := made(table("A", 1, "'"+long, "="+long, long, strings.Repeat("5", 1<<22)), table(long, 1, "1"))
	for i, b := range []api.Book{wide, high, full, sheets, texts} {
		if May(b) || !Same(b, Copy(b)) || Find(b, "none") != -1 {
			t.Errorf("10.1: workbook %d, far too large", i)
		}
		for _, s := range []api.Spot{{Sheet: "A", Col: many - 1}, {Sheet: "A", Row: many - 1}, {Sheet: long}, {}} {
			want := ""
			if i == 4 && s.Sheet == long {
				want = "1"
			}
			if Get(b, s) != want {
				t.Errorf("10.2: Get of workbook %d, far too large", i)
			}
			if told, e := Set(b, s, "5"); e != api.ErrArg || told.Sheets != nil {
				t.Errorf("10.2: Set of workbook %d, far too large: %d", i, e)
			}
		}
	}
	if Find(sheets, long) != many-1 || Find(texts, long) != 1 || Get(texts, api.Spot{Sheet: "A"}) != "'"+long {
		t.Error("10.1: Find of a long name")
	}
}
