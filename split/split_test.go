package split_test

import (
	"math"
	"math/rand"
	"slices"
	"strings"
	"testing"

	"footbridge/api"
	"footbridge/class"
	"footbridge/sample"
	"footbridge/scan"
	"footbridge/split"
	"footbridge/utf"
)

var kinds = []int{api.None, api.Blank, api.Plain, api.Wide}

// marks are symbols that are no bytes: the nearest ones, the farthest ones, and such as would be a byte, if just their lower bits were taken.
var marks = []int{-1, 256, 257, 300, 256 + 'a', 'a' - 256, 1<<32 + 'a', 1<<16 + ' ', -256, -255, math.MinInt, math.MinInt + '\'', math.MaxInt}

func tables() [][]api.Range {
	return [][]api.Range{class.Usual(), sample.Odd(), nil}
}

// text is a row of symbols, told by texts and marks.
func text(parts ...any) []int {
	var l []int
	for _, part := range parts {
		switch x := part.(type) {
		case int:
			l = append(l, x)
		case string:
			for _, b := range []byte(x) {
				l = append(l, int(b))
			}
		}
	}
	return l
}

// open are pieces that aren't decided, and sure such as are, of so many symbols each.
func open(sizes ...int) []api.Piece { return pieces(false, sizes) }
func sure(sizes ...int) []api.Piece { return pieces(true, sizes) }

func pieces(decided bool, sizes []int) []api.Piece {
	var l []api.Piece
	for _, n := range sizes {
		l = append(l, api.Piece{N: n, Decided: decided})
	}
	return l
}

func isByte(symbol int) bool { return 0 <= symbol && symbol <= 255 }

// behind is what stands from a place on: the bytes up to a mark or the end, and whether it is a mark.
func behind(text []int, at int) ([]byte, bool) {
	var b []byte
	for ; at < len(text) && isByte(text[at]); at++ {
		b = append(b, byte(text[at]))
	}
	return b, at < len(text)
}

// want are a text's pieces by the chapter's words, each found anew from the place where it begins.
func want(kind int, t []api.Range, text []int, final bool) []api.Piece {
	var l []api.Piece
	for at := 0; at < len(text); {
		p := api.Piece{N: 1, Decided: true}
		if isByte(text[at]) {
			b, marked := behind(text, at)
			p.N, p.Decided = scan.Next(kind, t, b, marked || final)
		}
		if len(l) > 0 && !l[len(l)-1].Decided {
			p.Decided = false
		}
		l = append(l, p)
		at += p.N
	}
	return l
}

// check holds all that is answered of a text against the chapter's words.
func check(t *testing.T, kind int, table []api.Range, text []int) {
	t.Helper()
	for _, final := range []bool{false, true} {
		w := want(kind, table, text, final)
		if got := split.Split(kind, table, text, final); !slices.Equal(got, w) {
			t.Fatalf("Split(%d, %v, %v, %v) = %v; want %v", kind, table, text, final, got, w)
		}
	}
	n := 0
	for _, p := range want(kind, table, text, false) {
		if p.Decided {
			n += p.N
		}
	}
	if got := split.Decided(kind, table, text); got != n {
		t.Fatalf("Decided(%d, %v, %v) = %d; want %d", kind, table, text, got, n)
	}
}

// rows hands out all rows of at most so many of these symbols.
func rows(symbols []int, most int, yield func([]int)) {
	var add func(row []int)
	add = func(row []int) {
		yield(slices.Clone(row))
		if len(row) == most {
			return
		}
		for _, s := range symbols {
			add(append(slices.Clone(row), s))
		}
	}
	add(nil)
}

// chanceText is a text of some units and marks; behind half of them there is one more unit, so that most ends are met.
func chanceText(chance *rand.Rand, most int) []int {
	units := []string{"a", "'re", "'", "r", "R", "l", "s", "12", "!", " ", "  ", "\t", "\n", "\r\n", "\u20ac", "\u00a0", "\u00e9", "\xe2", "\x82", "\xf0\x9f"}
	var l []int
	for range chance.Intn(most + 1) {
		if chance.Intn(8) == 0 {
			l = append(l, marks[chance.Intn(len(marks))])
		} else {
			l = append(l, text(units[chance.Intn(len(units))])...)
		}
	}
	return l
}

// P13.1: the chapter's example, and such as its words name.
func TestExamples(t *testing.T) {
	for _, x := range []struct {
		kind  int
		text  []int
		final bool
		want  []api.Piece
	}{
		{api.Plain, text("a b", 256), false, sure(1, 2, 1)},
		{api.Plain, text("a b", 256), true, sure(1, 2, 1)},
		{api.Plain, text("a b"), false, slices.Concat(sure(1), open(2))},
		{api.Plain, text("a b"), true, sure(1, 2)},
		{api.Plain, text("we're on"), false, slices.Concat(sure(2, 3), open(3))},
		{api.Plain, text("we're on", 256, "'r"), false, slices.Concat(sure(2, 3, 3, 1), open(1, 1))},
		{api.Plain, text("'r", -1, "e"), false, slices.Concat(sure(1, 1, 1), open(1))},
		{api.Plain, text("  ", 256, "  a"), false, slices.Concat(sure(2, 1, 1), open(2))},
		{api.Plain, text("ab", 256, "cd"), true, sure(2, 1, 2)},
		{api.Plain, text(256, 257, -1, 256), false, sure(1, 1, 1, 1)},
		{api.Plain, text("\xe2\x82", 256, "\xac"), false, slices.Concat(sure(2, 1), open(1))},
		{api.Plain, text("a \xe2"), false, slices.Concat(sure(1), open(2))},
		{api.Wide, text("12345"), false, slices.Concat(sure(3), open(2))},
		{api.Wide, text("a\n\t\t\xe2"), false, slices.Concat(sure(1), open(1, 1, 1, 1))},
		{api.Wide, text("'L", 256, "L'L"), false, slices.Concat(sure(2, 1, 1), open(2))},
		{api.Blank, text("ab cd "), false, slices.Concat(sure(2, 3), open(1))},
		{api.Blank, text("ab ", 256, " cd"), true, sure(2, 1, 1, 3)},
		{api.None, text("a b", 256, "c"), false, slices.Concat(sure(3, 1), open(1))},
		{api.None, text("a b"), false, open(3)},
		{api.None, text("a b"), true, sure(3)},
	} {
		got := split.Split(x.kind, class.Usual(), x.text, x.final)
		if !slices.Equal(got, x.want) {
			t.Errorf("Split(%d, usual, %v, %v) = %v; want %v", x.kind, x.text, x.final, got, x.want)
		}
	}
}

// P13.1: how many symbols are decided, of a text that isn't final.
func TestDecided(t *testing.T) {
	for _, x := range []struct {
		kind int
		text []int
		want int
	}{
		{api.Plain, nil, 0},
		{api.Plain, text("we're on"), 5},
		{api.Plain, text("we're on "), 8},
		{api.Plain, text("a b", 256), 4},
		{api.Plain, text("a b", 256, "c"), 4},
		{api.Plain, text(256), 1},
		{api.Plain, text("\u20ac"), 0},
		{api.Plain, text("\u20aca"), 3},
		{api.Wide, text("12345"), 3},
		{api.None, text("we're on"), 0},
		{api.None, text("we're on", -5), 9},
		{api.Blank, text("ab cd ef"), 5},
	} {
		if got := split.Decided(x.kind, class.Usual(), x.text); got != x.want {
			t.Errorf("Decided(%d, usual, %v) = %d; want %d", x.kind, x.text, got, x.want)
		}
	}
}

// P13.1: a piece that Next says is decided isn't, if one ahead of it isn't.
func TestNoneBehindOpen(t *testing.T) {
	table := sample.Odd()
	row := text("\n's")
	if n, decided := scan.Next(api.Wide, table, []byte("\n's"), false); n != 1 || decided {
		t.Fatalf("Next(Wide, odd, \\n's, false) = %d, %v", n, decided)
	}
	if n, decided := scan.Next(api.Wide, table, []byte("'s"), false); n != 2 || !decided {
		t.Fatalf("Next(Wide, odd, 's, false) = %d, %v", n, decided)
	}
	if got := split.Split(api.Wide, table, row, false); !slices.Equal(got, open(1, 2)) {
		t.Errorf("Split(Wide, odd, %v, false) = %v; want two that aren't decided", row, got)
	}
	if got := split.Split(api.Wide, table, append(row, '\n'), false); !slices.Equal(got, open(4)) {
		t.Errorf("Split(Wide, odd, %v, false) = %v; want one of four", append(row, '\n'), got)
	}
	if got := split.Split(api.Wide, table, append(row, 256), false); !slices.Equal(got, sure(1, 2, 1)) {
		t.Errorf("Split(Wide, odd, %v, false) = %v; want three that are decided", append(row, 256), got)
	}
	if got := split.Decided(api.Wide, table, row); got != 0 {
		t.Errorf("Decided(Wide, odd, %v) = %d; want 0", row, got)
	}
	if got := split.Decided(api.Wide, table, append(text("a1", 256), row...)); got != 3 {
		t.Errorf("Decided(Wide, odd, a1, 256, %v) = %d; want 3", row, got)
	}
}

// P13.1: all short texts of what the chapters name, of marks, and of broken code points.
func TestShortTexts(t *testing.T) {
	symbols := text("'srLa1! \t\n\xe2\x82", 256, -1)
	for _, table := range tables() {
		for _, kind := range kinds {
			rows(symbols, 3, func(row []int) { check(t, kind, table, row) })
		}
	}
	for _, kind := range kinds {
		rows(text("'ra \n\xe2", 256), 5, func(row []int) { check(t, kind, class.Usual(), row) })
	}
}

// P13.1: each symbol around the bytes, alone, and on both sides of bytes.
func TestAllSymbols(t *testing.T) {
	symbols := slices.Clone(marks)
	for s := -300; s <= 600; s++ {
		symbols = append(symbols, s)
	}
	for _, kind := range kinds {
		for _, s := range symbols {
			for _, row := range [][]int{{s}, {s, s}, {'a', s}, {s, 'a'}, {' ', s, ' '}, {'\'', s, 'r', 'e', s}} {
				check(t, kind, class.Usual(), row)
			}
			want := pieces(!isByte(s), []int{1})
			if got := split.Split(kind, class.Usual(), []int{s}, false); !slices.Equal(got, want) {
				t.Fatalf("Split(%d, usual, [%d], false) = %v; want %v", kind, s, got, want)
			}
		}
	}
}

// P13.1: long texts.
func TestLongTexts(t *testing.T) {
	chance := rand.New(rand.NewSource(13))
	for n := range 6000 {
		check(t, kinds[n%len(kinds)], tables()[chance.Intn(3)], chanceText(chance, 40))
	}
}

// P13.1: texts of the greatest size.
func TestGreatTexts(t *testing.T) {
	for _, unit := range [][]int{text("a"), text(" "), text("\n"), text("1"), text("'"), text("a "), text("\xe2"), text("\n "), text(256), text(-1, "a"), text("It's 12345 o'clock!\r\n\t\tA\u00a0b  \xff", 999)} {
		row := slices.Repeat(unit, api.MaxText/len(unit))
		for _, kind := range kinds {
			got := split.Split(kind, class.Usual(), row, true)
			n := 0
			for _, p := range got {
				if p.N < 1 || !p.Decided {
					t.Fatalf("Split(%d, usual, %v .., true) has the piece %v", kind, unit, p)
				}
				n += p.N
			}
			if n != len(row) {
				t.Fatalf("the pieces of %v .. by %d have %d symbols; want %d", unit, kind, n, len(row))
			}
			if n := split.Decided(kind, class.Usual(), append(slices.Clone(row), 256)); n != len(row)+1 {
				t.Fatalf("Decided(%d, usual, %v .., 256) = %d; want %d", kind, unit, n, len(row)+1)
			}
		}
	}
}

// P13.1: no such kind, and tables that may not be: there are no pieces, not even of marks.
func TestWrong(t *testing.T) {
	many := make([]api.Range, api.MaxRanges+1)
	for i := range many {
		many[i] = api.Range{Lo: 'a' + i, Hi: 'a' + i, Class: api.Letter}
	}
	none := func(kind int, table []api.Range) {
		t.Helper()
		for _, row := range [][]int{nil, {}, text("ab c"), text(256), text(-1, 256), text("a", 256, "b"), text(256, "a ")} {
			for _, final := range []bool{false, true} {
				if got := split.Split(kind, table, row, final); len(got) != 0 {
					t.Errorf("Split(%d, %v, %v, %v) = %v; want none", kind, table, row, final, got)
				}
			}
			if got := split.Decided(kind, table, row); got != 0 {
				t.Errorf("Decided(%d, %v, %v) = %d; want 0", kind, table, row, got)
			}
		}
	}
	for _, kind := range []int{-1, 4, 5, 256, -256, math.MinInt, math.MaxInt, 1 << 32} {
		none(kind, class.Usual())
	}
	for _, table := range [][]api.Range{
		many,
		{{Lo: 5, Hi: 4, Class: api.Letter}},
		{{Lo: -1, Hi: 4, Class: api.Letter}},
		{{Lo: 0, Hi: api.MaxPoint + 1, Class: api.Letter}},
		{{Lo: 0, Hi: 4, Class: api.Other}},
		{{Lo: 0, Hi: 4, Class: api.Line + 1}},
		{{Lo: 0, Hi: 4, Class: api.Letter}, {Lo: 4, Hi: 5, Class: api.Letter}},
		{{Lo: math.MinInt, Hi: math.MaxInt, Class: api.Letter}},
	} {
		for _, kind := range kinds {
			none(kind, table)
		}
	}
	if got := split.Split(api.Plain, many[:api.MaxRanges], text("abc d", 256), false); !slices.Equal(got, sure(3, 2, 1)) {
		t.Errorf("Split by a table of the most ranges = %v", got)
	}
}

// P13.1: a text without symbols has no pieces.
func TestNoText(t *testing.T) {
	for _, kind := range kinds {
		for _, table := range tables() {
			for _, row := range [][]int{nil, {}} {
				a, b := split.Split(kind, table, row, false), split.Split(kind, table, row, true)
				if n := split.Decided(kind, table, row); len(a) != 0 || len(b) != 0 || n != 0 {
					t.Errorf("of no text by %d: %v, %v, %d", kind, a, b, n)
				}
			}
		}
	}
}

// P13.1: the bytes of a text, if it has no mark.
func TestBytes(t *testing.T) {
	all := make([]int, 256)
	for s := range all {
		all[s] = s
	}
	for _, row := range [][]int{nil, {}, {0}, {255}, text("ab"), text("\xe2\x82\x00"), all, slices.Repeat(all, 256)} {
		b, ok := split.Bytes(row)
		if !ok || !slices.Equal(text(string(b)), row) {
			t.Errorf("Bytes(%v) = %v, %v", row, b, ok)
		}
	}
	for _, mark := range marks {
		for _, row := range [][]int{{mark}, {mark, mark}, text("ab", mark), text(mark, "ab"), text("a", mark, "b"), append(slices.Clone(all), mark)} {
			if b, ok := split.Bytes(row); ok || len(b) != 0 {
				t.Errorf("Bytes(%v) = %v, %v; want none, false", row, b, ok)
			}
		}
	}
	for s := -600; s <= 600; s++ {
		if b, ok := split.Bytes([]int{s}); ok != isByte(s) || ok && b[0] != byte(s) {
			t.Errorf("Bytes([%d]) = %v, %v", s, b, ok)
		}
	}
}

// decidedOf are the pieces that are decided, which are the first ones.
func decidedOf(t *testing.T, kind int, table []api.Range, row []int, final bool) []api.Piece {
	t.Helper()
	l := split.Split(kind, table, row, final)
	n := 0
	for n < len(l) && l[n].Decided {
		n++
	}
	for _, p := range l[n:] {
		if p.Decided {
			t.Fatalf("Split(%d, %v, %v, %v) = %v: one is decided behind one that isn't", kind, table, row, final, l)
		}
	}
	return l[:n]
}

// stays checks that the decided pieces of a text are the first ones of a longer one, and decided there.
func stays(t *testing.T, kind int, table []api.Range, row, longer []int) {
	t.Helper()
	first := decidedOf(t, kind, table, row, false)
	for _, final := range []bool{false, true} {
		l := decidedOf(t, kind, table, longer, final)
		if len(l) < len(first) || !slices.Equal(l[:len(first)], first) {
			t.Fatalf("by %d, %v the decided pieces of %v are %v, but of %v, %v they are %v", kind, table, row, first, longer, final, l)
		}
	}
}

// P13.2: whatever symbol stands behind a text, its decided pieces stay; so whatever symbols.
func TestTheyStay(t *testing.T) {
	symbols := text("'srLa1! \t\n\xe2\x82", 256, -1)
	for _, table := range tables() {
		for _, kind := range kinds {
			rows(symbols, 3, func(row []int) {
				if len(row) > 0 {
					stays(t, kind, table, row[:len(row)-1], row)
				}
			})
		}
	}
}

// P13.2: longer texts, with each byte, marks, and whole texts behind them.
func TestLongStays(t *testing.T) {
	chance := rand.New(rand.NewSource(132))
	behind := slices.Clone(marks)
	for b := range 256 {
		behind = append(behind, b)
	}
	for n := range 600 {
		kind, table := kinds[n%len(kinds)], tables()[chance.Intn(3)]
		row := chanceText(chance, 8)
		for _, s := range behind {
			stays(t, kind, table, row, append(slices.Clone(row), s))
		}
		for range 20 {
			stays(t, kind, table, row, slices.Concat(row, chanceText(chance, 8)))
		}
	}
}

// P13.3: of all short texts, and of long ones, few pieces aren't decided.
func TestFewAreOpen(t *testing.T) {
	most := [2]int{}
	count := func(row []int) {
		end := len(row)
		for end > 0 && isByte(row[end-1]) {
			end--
		}
		last, _ := behind(row, end)
		bound, more := 4, 1
		if utf.Rest(last) == 0 {
			bound, more = 2, 0
		}
		for _, kind := range kinds {
			l := split.Split(kind, class.Usual(), row, false)
			n := len(l) - len(decidedOf(t, kind, class.Usual(), row, false))
			if n > bound {
				t.Fatalf("%d pieces of %v by %d aren't decided; want at most %d", n, row, kind, bound)
			}
			most[more] = max(most[more], n)
			if l := decidedOf(t, kind, class.Usual(), row, true); !slices.Equal(l, split.Split(kind, class.Usual(), row, true)) {
				t.Fatalf("pieces of %v by %d aren't decided, though it is final", row, kind)
			}
		}
	}
	rows(text("'srLa1! \t\n\xe2\x82", 256), 4, count)
	chance := rand.New(rand.NewSource(133))
	for range 10000 {
		count(chanceText(chance, 20))
	}
	for _, s := range []string{"  ", "\n\t\t\xe2", "\n\t\t\xf0\x9f\x98", "'r\xf0\x9f\x98", "'\xe2\x82"} {
		count(text(s))
		count(text("a", 256, s))
	}
	if most != [2]int{2, 4} {
		t.Errorf("at most %d pieces aren't decided here, and %d where bytes need more: these texts don't come to the bounds", most[0], most[1])
	}
}

// P13.1 (R3): what is handed in isn't changed, and what is answered is new memory.
func TestMemory(t *testing.T) {
	table, row := class.Usual(), text("We'LL  go \n 123", 256, "'L\xe2")
	bytes := text("ab")
	for _, kind := range kinds {
		first := split.Split(kind, table, row, false)
		copied := slices.Clone(first)
		clear(split.Split(kind, table, row, false))
		split.Decided(kind, table, row)
		if !slices.Equal(first, copied) || !slices.Equal(split.Split(kind, table, row, false), copied) {
			t.Errorf("by %d the pieces changed to %v", kind, first)
		}
	}
	a, _ := split.Bytes(bytes)
	clear(a)
	if b, ok := split.Bytes(bytes); !ok || string(b) != "ab" {
		t.Errorf("Bytes = %q, %v behind a change of an answer", b, ok)
	}
	if !slices.Equal(table, class.Usual()) || !slices.Equal(row, text("We'LL  go \n 123", 256, "'L\xe2")) || !slices.Equal(bytes, text("ab")) {
		t.Error("what was handed in was changed")
	}
}

// P13.1 (R5): a text's pieces are its first ones' and the others', cut at any mark.
func TestMarksPart(t *testing.T) {
	chance := rand.New(rand.NewSource(131))
	for n := range 2000 {
		kind, table := kinds[n%len(kinds)], tables()[chance.Intn(3)]
		ahead, rest := chanceText(chance, 10), chanceText(chance, 10)
		mark := marks[chance.Intn(len(marks))]
		whole := slices.Concat(ahead, []int{mark}, rest)
		for _, final := range []bool{false, true} {
			want := slices.Concat(split.Split(kind, table, ahead, true), sure(1), split.Split(kind, table, rest, final))
			if got := split.Split(kind, table, whole, final); !slices.Equal(got, want) {
				t.Fatalf("Split(%d, %v, %v, %v) = %v; want %v", kind, table, whole, final, got, want)
			}
		}
	}
}

// P13.1: pieces of bytes alone are those that are cut one behind the other, and tell the text again.
func TestPiecesOfBytes(t *testing.T) {
	for _, x := range []struct {
		kind int
		text string
		want []string
	}{
		{api.Plain, "I'll go", []string{"I", "'ll", " go"}},
		{api.Plain, "a  b", []string{"a", " ", " b"}},
		{api.Wide, "a 12345\n\n b", []string{"a", " ", "123", "45", "\n\n", " b"}},
		{api.Blank, "  a1! \nb ", []string{"  a1!", " \nb", " "}},
		{api.None, " a\n'll", []string{" a\n'll"}},
	} {
		var got []string
		rest := x.text
		for _, p := range split.Split(x.kind, class.Usual(), text(x.text), true) {
			got, rest = append(got, rest[:p.N]), rest[p.N:]
		}
		if !slices.Equal(got, x.want) || strings.Join(got, "") != x.text {
			t.Errorf("pieces of %q by %d: %q; want %q", x.text, x.kind, got, x.want)
		}
	}
}
