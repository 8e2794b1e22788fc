package deps

import (
	"fmt"
	"math"
	"slices"
	"strings"
	"testing"

	"chequer/api"
	"chequer/book"
)

// grids are ways for three cells to stand in a book, with how each is named from anywhere.
func grids() []func(texts []string) (api.Book, []string) {
	return []func([]string) (api.Book, []string){
		func(l []string) (api.Book, []string) {
			return made(table("A", l[0]+"|"+l[1]+"|"+l[2])), []string{"A1", "A!B1", "$C$1"}
		},
		func(l []string) (api.Book, []string) {
			return made(table("A", l[0], l[1], l[2])), []string{"A!A1", "A$2", "$A3"}
		},
		func(l []string) (api.Book, []string) {
			return made(table("A", l[0]), table("B", l[1]), table("a", l[2])), []string{"A!A1", "B!A1", "a!A1"}
		},
		func(l []string) (api.Book, []string) {
			return made(table("A", "1|"+l[0], l[1]+"|"), table("B", l[2])), []string{"A!B1", "A!A2", "B!A1"}
		},
	}
}

// 13.1, 13.2, 13.3: three cells, each plain or in need of any of the three: all there are.
func TestAllOfThree(t *testing.T) {
	for _, grid := range grids() {
		_, names := grid([]string{"1", "1", "1"})
		for n := range 9 * 9 * 9 {
			var l []string
			for _, needs := range []int{n % 9, n / 9 % 9, n / 81} {
				s := "=1"
				for i, name := range names {
					if needs>>i&1 == 1 {
						s += "+" + name
					}
				}
				if needs == 8 {
					s = "8"
				}
				l = append(l, s)
			}
			b, _ := grid(l)
			checkSmall(t, b)
		}
	}
}

// 13.2, 13.3: four cells, two by two, each in need of some of the four or plain: some of all there are.
func TestManyOfFour(t *testing.T) {
	const kinds = 17
	count := [5]int{}
	for n := 0; n < kinds*kinds*kinds*kinds; n += 41 {
		var l []string
		for rest := n; len(l) < 4; rest /= kinds {
			s := "=1"
			for i, name := range []string{"A1", "B1", "A2", "B2"} {
				if rest%kinds>>i&1 == 1 {
					s += "+" + name
				}
			}
			if rest%kinds == 16 {
				s = "'x"
			}
			l = append(l, s)
		}
		b := made(table("A", l[0]+"|"+l[1], l[2]+"|"+l[3]))
		checkSmall(t, b)
		order, _ := Order(b)
		count[len(order)]++
	}
	for n, times := range count {
		if times < 10 {
			t.Error("too few of one kind", n, times)
		}
	}
}

// 13.1: all ranges and references of a small sheet, and of those beside it.
func TestAllRanges(t *testing.T) {
	for top := range 4 {
		for left := range 4 {
			first := string(rune('A'+left)) + string(rune('1'+top))
			b := many("=" + first)
			check(t, b)
			for bottom := top; bottom < 4; bottom++ {
				for right := left; right < 5; right++ {
					for _, sheet := range []string{"", "A!", "A1!", "B!", "TRUE!", "C!"} {
						b.Sheets[0].Rows[0][0] = "=SUM(" + sheet + first + ":" + string(rune('A'+right)) + string(rune('1'+bottom)) + ",C3)"
						if got, want := Needs(b, at("A!A1")), theirNeeds(texts(b), at("A!A1")); !slices.Equal(got, want) {
							t.Fatalf("13.1: Needs of %q: %v, not %v", b.Sheets[0].Rows[0][0], got, want)
						}
					}
				}
			}
		}
	}
}

// 13.1, 13.2, 13.3: books of any kind.
func TestAny(t *testing.T) {
	d := dice(1)
	come, stuck, need := 0, 0, 0
	for range 2500 {
		b := d.book(1+d.below(4), 1+d.below(4), 1+d.below(4), 1+d.below(9))
		if !book.May(b) {
			t.Fatalf("no book\n%s", dump(b))
		}
		checkSmall(t, b)
		order, cyclic := Order(b)
		come, stuck = come+len(order), stuck+len(cyclic)
		for _, s := range order {
			need += len(Needs(b, s))
		}
	}
	if come < 5000 || stuck < 800 || need < 2000 {
		t.Error("too few of one kind", come, stuck, need)
	}
}

// 13.1, 13.2, 13.3: great books, most of whose formulas can come: each names cells behind it in a hidden order.
func TestAnyGreat(t *testing.T) {
	d := dice(2)
	for round := range 12 {
		place := make([]int, cells)
		for i := range place {
			k := d.below(i + 1)
			place[i], place[k] = place[k], i
		}
		cyclic := round % 3
		b := greatest(func(n int) string {
			if d.below(3) == 0 {
				return d.anyOf("", "1", "'x")
			}
			s := "=1"
			for range d.below(4) {
				if m := d.below(cells); place[m] < place[n] || d.below(3000) < cyclic {
					s += "+" + naming(m)[1:]
				}
			}
			return s
		})
		checkOrder(t, b)
		order, rest := Order(b)
		if cyclic == 0 && len(rest) > 0 || len(order) < 300 {
			t.Error("13.2: Order of a great book:", len(order), len(rest))
		}
	}
}

// 13.1, 13.2: books that may not be: Needs tells what their cells need all the same, Order nothing.
func TestAnyWrong(t *testing.T) {
	d := dice(3)
	wrong := 0
	for range 1500 {
		b := d.book(1+d.below(4), 3, 3, 7)
		for range 1 + d.below(2) {
			d.spoil(&b)
		}
		check(t, b)
		if !book.May(b) {
			wrong++
		}
	}
	if wrong < 800 {
		t.Error("too few of one kind", wrong)
	}
}

// spoil changes something in b, so that most often it may not be any more.
func (d *dice) spoil(b *api.Book) {
	s := &b.Sheets[d.below(len(b.Sheets))]
	other := &b.Sheets[d.below(len(b.Sheets))]
	row := &s.Rows[d.below(len(s.Rows))]
	switch d.below(7) {
	case 0:
		s.Name, other.Name = other.Name, s.Name
	case 1:
		s.Name = d.anyOf("", "1", "A!", other.Name, "B", "abcdefghijklm", "\xff")
	case 2:
		s.Cols = d.below(20) - 3
	case 3:
		*row = append(*row, d.text(3, 3, 9))
	case 4:
		*row = nil
	case 5:
		*row = append(*row, d.anyOf("=A1 ", "=", "x", "=(A1)", "=a1"))
	default:
		b.Sheets = append(b.Sheets, api.Sheet{Name: d.anyOf("A", "C", "z"), Cols: 1, Rows: [][]string{{d.text(2, 2, 9)}}})
	}
}

// 13.1: Cmp of any three cells: alike where they are alike, one way round, and on from one to the next.
func TestAnyCmp(t *testing.T) {
	d := dice(4)
	one := func() api.Spot {
		return api.Spot{Sheet: d.anyOf("", "A", "AA", "B", "a"), Row: d.below(5) - 2, Col: []int{math.MinInt, -1, 0, 1, math.MaxInt}[d.below(5)]}
	}
	for range 20000 {
		a, b, c := one(), one(), one()
		if got := Cmp(a, b); got != -Cmp(b, a) || got*got > 1 || (got == 0) != (a == b) || (got < 0) != before(a, b) {
			t.Fatalf("13.1: Cmp(%v, %v): %d", a, b, got)
		}
		if Cmp(a, b) <= 0 && Cmp(b, c) <= 0 && Cmp(a, c) > 0 {
			t.Fatalf("13.1: Cmp of %v, %v, %v", a, b, c)
		}
	}
}

// scribble writes into all of a list, spare room too, and appends to it.
func scribble(l []api.Spot) {
	_ = append(l, api.Spot{Sheet: "appended"})
	for i := range l[:cap(l)] {
		l[:cap(l)][i] = api.Spot{Sheet: "written", Row: -7, Col: -7}
	}
}

// whole tells all that a book's memory has, spare room too.
func whole(b api.Book) string {
	var s strings.Builder
	for _, l := range b.Sheets[:cap(b.Sheets)] {
		fmt.Fprintf(&s, "%q %d %d\n", l.Name, l.Cols, len(l.Rows))
		for _, row := range l.Rows[:cap(l.Rows)] {
			fmt.Fprintf(&s, "%d %q\n", len(row), row[:cap(row)])
		}
	}
	return s.String()
}

// roomy tells a book like b whose lists all have spare room with something in it.
func roomy(b api.Book) api.Book {
	sheets := append(slices.Clone(b.Sheets), api.Sheet{Name: "spare"})
	for i := range b.Sheets {
		rows := append(slices.Clone(sheets[i].Rows), []string{"spare"})
		for j := range sheets[i].Rows {
			row := append(slices.Clone(rows[j]), "=A1")
			rows[j] = row[:len(row)-1]
		}
		sheets[i].Rows = rows[:len(rows)-1]
	}
	return api.Book{Sheets: sheets[:len(sheets)-1]}
}

// 13.1, 13.2, R3: what is handed in stays, spare room too; what is told is new memory each time, each list its own.
func TestApart(t *testing.T) {
	d := dice(5)
	for range 400 {
		b := roomy(d.book(1+d.below(3), 3, 3, 5))
		was := whole(b)
		order, cyclic := Order(b)
		want, wantCyclic := slices.Clone(order), slices.Clone(cyclic)
		order2, cyclic2 := Order(b)
		scribble(order)
		if !slices.Equal(cyclic, wantCyclic) || !slices.Equal(order2, want) || !slices.Equal(cyclic2, wantCyclic) {
			t.Fatalf("R3: Order of\n%s: written into one that was told", was)
		}
		scribble(cyclic)
		if !slices.Equal(order2, want) || !slices.Equal(cyclic2, wantCyclic) {
			t.Fatalf("R3: Order of\n%s: written into one that was told", was)
		}
		order, _ = Order(b)
		scribble(cyclic2)
		if !slices.Equal(order, want) || !slices.Equal(order2, want) {
			t.Fatalf("R3: Order of\n%s: written into one that was told", was)
		}
		for s := range texts(b) {
			got, got2 := Needs(b, s), Needs(b, s)
			want := slices.Clone(got)
			scribble(got)
			if !slices.Equal(got2, want) || !slices.Equal(Needs(b, s), want) {
				t.Fatalf("R3: Needs of %v of\n%s: written into one that was told", s, was)
			}
		}
		if whole(b) != was {
			t.Fatalf("R3: what was handed in was\n%sand is\n%s", was, whole(b))
		}
	}
}

// R1: the same calls tell the same, however often they are made.
func TestAgain(t *testing.T) {
	d := dice(6)
	for range 30 {
		b := d.book(5, 6, 6, 8)
		order, cyclic := Order(b)
		for range 20 {
			if again, again2 := Order(book.Copy(b)); !slices.Equal(order, again) || !slices.Equal(cyclic, again2) {
				t.Fatalf("R1: Order of\n%s: %v and %v, then %v and %v", dump(b), order, cyclic, again, again2)
			}
		}
	}
}
